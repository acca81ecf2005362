/-
  The walk of one block.
-/
import Derived.Test.YtkfgpnigeknhmaaDoorWb
namespace Go.Proofs.YtkfgpnigeknhmaaDoor
open Go Go.RowKit
/-- The program's table lies in its own block. -/
def Tab (w : World) : Prop := ∀ i, i < 64 → w.cell? ⟨0, i, none⟩ = some (.int .u32 (uv (kTab.getD i 0)))
theorem turn_a (x : BitVec 32) (w : World) : Calls Tryd.prog 59 #[.int .u32 (uv x), .int .i64 6, .int .i64 11, .int .i64 25] w fun e w' => e = .returned (.int .u32 (uv (tur x 6 11 25))) ∧ ∃ n, w' = w.drewN n :=
  (turn_any x 6 11 25 w (by omega) (by omega) (by omega) (by omega) (by omega) (by omega)).mono fun _ _ ⟨he, hw⟩ => ⟨he, 0, hw.symm⟩
theorem turn_b (x : BitVec 32) (w : World) : Calls Tryd.prog 59 #[.int .u32 (uv x), .int .i64 2, .int .i64 13, .int .i64 22] w fun e w' => e = .returned (.int .u32 (uv (tur x 2 13 22))) ∧ w = w' :=
  turn_any x 2 13 22 w (by omega) (by omega) (by omega) (by omega) (by omega) (by omega)
/-- The memory while a block is mixed in. -/
def Mxd (w : World) (l : List (BitVec 32)) (bs : List UInt8) (wr : World) : Prop :=
  Below w.heap.size w wr ∧ w.heap.size + 3 ≤ wr.heap.size ∧ wr.heap[w.heap.size]? = some (.cells (u32s l) 30 (0, 0)) ∧
  wr.heap[w.heap.size + 1]? = some (.cells (u8s bs) 37 (0, 0)) ∧ wr.heap[w.heap.size + 1 + 1]? = some (.cells (u32s (List.replicate 8 0)) 30 (0, 0))
theorem Mxd.start (w : World) (l : List (BitVec 32)) (bs : List UInt8) : Mxd w l bs (((w.alloc (.cells (u32s l) 30)).alloc (.cells (u8s bs) 37)).alloc (.cells (u32s (List.replicate 8 0)) 30)) := by
  refine ⟨(((Below.refl _ _).alloc (Nat.le_refl _) _).alloc (by simp) _).alloc (by simp; omega) _, by simp, ?_, ?_, ?_⟩
  · rw [hold _ _ _ (by simp; omega), hold _ _ _ (by simp), hnew _ _ _ rfl]
  · rw [hold _ _ _ (by simp), hnew _ _ _ (by simp)]
  · rw [hnew _ _ _ (by simp)]
theorem Mxd.cell {w wr : World} {l : List (BitVec 32)} {bs : List UInt8} (h : Mxd w l bs wr) (i : Nat) (hi : i < l.length) :
    wr.cell? ⟨w.heap.size, i, none⟩ = some (.int .u32 (uv (l.getD i 0))) := by
  rw [cell_of_row _ _ _ _ _ _ h.2.2.1]; exact u32s_get _ _ hi
theorem Mxd.later {w w1 w2 : World} {l : List (BitVec 32)} {bs : List UInt8} (h : Mxd w l bs w1) {n : Nat} (hb : Below (w1.drewN n).heap.size (w1.drewN n) w2) : Mxd w l bs w2 := by
  obtain ⟨h1, h2, h3, h4, h5⟩ := h
  have hb' : Below w1.heap.size w1 w2 := ⟨hb.os, hb.tape, hb.output, hb.size, hb.block⟩
  exact ⟨h1.trans (hb'.mono (by omega)), Nat.le_trans h2 hb'.size, by rw [hb'.block _ (by omega)]; exact h3, by rw [hb'.block _ (by omega)]; exact h4, by rw [hb'.block _ (by omega)]; exact h5⟩
theorem Mxd.drewN {w w1 : World} {l : List (BitVec 32)} {bs : List UInt8} (h : Mxd w l bs w1) (n : Nat) : Mxd w l bs (w1.drewN n) :=
  ⟨below_drewN h.1 n, h.2.1, h.2.2.1, h.2.2.2.1, h.2.2.2.2⟩
theorem Tab.later {w w1 : World} (h : Tab w) {B : Nat} (hb : Below B w w1) (h0 : 0 < B) : Tab w1 := fun i hi => by
  rw [hb.cell (p := ⟨0, i, none⟩) h0]; exact h i hi
theorem Mxd.step {w wr : World} {l : List (BitVec 32)} {bs : List UInt8} (h : Mxd w l bs wr) (k : Nat) (x : BitVec 32) :
    Mxd w (l.set k x) bs (wr.setCell ⟨w.heap.size, k, none⟩ (.int .u32 (uv x))) := by
  obtain ⟨h1, h2, h3, h4, h5⟩ := h
  refine ⟨h1.setCell (Nat.le_refl _) _, by simpa using h2, ?_, ?_, ?_⟩
  · rw [heap_setCell_same wr _ _ _ _ _ h3, u32s_set]
  · rw [heap_setCell_other _ _ _ _ (by simp only []; omega)]; exact h4
  · rw [heap_setCell_other _ _ _ _ (by simp only []; omega)]; exact h5
theorem Mxd.frozen {w wr : World} {l : List (BitVec 32)} {bs : List UInt8} (h : Mxd w l bs wr) (i : Nat) : wr.frozen? ⟨w.heap.size, i, none⟩ = false := frozen_of_row _ _ _ _ _ h.2.2.1
theorem uv_notl (x : BitVec 32) : bits .xor .u32 (if IntKind.u32.signed = true then -1 else IntKind.u32.max) (uv x) = uv (~~~ x) := by
  have h := uv_xor (BitVec.allOnes 32) x
  rw [show uv (BitVec.allOnes 32) = (if IntKind.u32.signed = true then -1 else IntKind.u32.max) from rfl] at h
  rw [h, BitVec.allOnes_xor]
theorem low_uv (s : Eight) (x k : BitVec 32) : (uv s.h + uv x + uv k + uv (tur s.e 6 11 25) +
      bits BinOp.xor IntKind.u32 (bits BinOp.and IntKind.u32 (uv s.e) (uv s.f)) (bits BinOp.and IntKind.u32 (bits BinOp.xor IntKind.u32 (if IntKind.u32.signed = true then -1 else IntKind.u32.max) (uv s.e)) (uv s.g))) % 4294967296 = uv (low s x k) := by
  rw [uv_notl, uv_and, uv_and, uv_xor]
  unfold low
  rw [← uv_add, ← uv_add, ← uv_add, ← uv_add]
  omega
theorem high_uv (s : Eight) : (uv (tur s.a 2 13 22) + bits BinOp.xor IntKind.u32 (bits BinOp.xor IntKind.u32 (bits BinOp.and IntKind.u32 (uv s.a) (uv s.b)) (bits BinOp.and IntKind.u32 (uv s.a) (uv s.c))) (bits BinOp.and IntKind.u32 (uv s.b) (uv s.c))) % 4294967296 = uv (high s) := by
  rw [uv_and, uv_and, uv_and, uv_xor, uv_xor, uv_add]
  rfl
/-- What holds at the head of each of the 64 rounds. -/
def Rnd (w : World) (l : List (BitVec 32)) (bs : List UInt8) (s : Eight) (a b c d e f g h i : Value) (wr : World) : Prop :=
  ∃ k : Nat, k ≤ 64 ∧ a = .int .u32 (uv (rnds bs s k).a) ∧ b = .int .u32 (uv (rnds bs s k).b) ∧ c = .int .u32 (uv (rnds bs s k).c) ∧ d = .int .u32 (uv (rnds bs s k).d) ∧
    e = .int .u32 (uv (rnds bs s k).e) ∧ f = .int .u32 (uv (rnds bs s k).f) ∧ g = .int .u32 (uv (rnds bs s k).g) ∧ h = .int .u32 (uv (rnds bs s k).h) ∧ i = .int .i64 k ∧ Mxd w l bs wr ∧ Tab wr
/-- 'x[i]' of an array of words. -/
theorem idx_row (t n : Nat) (l : List (BitVec 32)) (hu : Tryd.prog.underlying t = some (.array n 28)) (hn : n = l.length) (k : Nat) (hk : k < l.length) (W : World) :
    (Instr.index t (.agg (u32s l)) (.int .i64 (k : Int))).run Tryd.prog W = .ok (.int .u32 (uv (l.getD k 0))) W := by
  have hs : ((sizeOf 28).run Tryd.prog W) = .ok 1 W := by kernel_rfl
  have hc : 0 ≤ (k : Int) ∧ (k : Int) < (n : Int) := by omega
  have ha : (isAgg 28).run Tryd.prog W = .ok false W := by kernel_rfl
  simp only [Instr.index, asIntOf, run_underlying hu, Sem.run_bind, Sem.run_pure, Result.andThen_ok, if_pos hc, hs, part, ha, Int.toNat_natCast, Nat.mul_one, u32s_get l k hk]
  rfl
set_option maxRecDepth 100000 in
set_option maxHeartbeats 1000000 in
theorem mixed_any (l : List (BitVec 32)) (bs : List UInt8) (w : World) (hl : l.length = 8) (hb : bs.length = 64) (hT : Tab w) (h0 : 0 < w.heap.size) :
    Calls Tryd.prog 52 #[.agg (u32s l), .agg (u8s bs)] w fun e w' => e = .returned (.agg (u32s (mix l bs))) ∧ Below w.heap.size w w' := by
  have HS : Bx (Mxd w l bs (((w.alloc (Obj.cells (u32s l) 30)).alloc (Obj.cells (u8s bs) 37)).alloc (Obj.cells #[Value.int .u32 0, Value.int .u32 0, Value.int .u32 0, Value.int .u32 0, Value.int .u32 0, Value.int .u32 0, Value.int .u32 0, Value.int .u32 0] 30))) := Bx.mk (Mxd.start w l bs)
  have HL := Bx.mk hl
  have HB := Bx.mk hb
  have HT := Bx.mk hT
  clear hl hb hT
  go_enter Tryd.func52, Tryd.ntmps52
  go_wp2
  generalize ((w.alloc (Obj.cells (u32s l) 30)).alloc (Obj.cells (u8s bs) 37)).alloc (Obj.cells #[Value.int .u32 0, Value.int .u32 0, Value.int .u32 0, Value.int .u32 0, Value.int .u32 0, Value.int .u32 0, Value.int .u32 0, Value.int .u32 0] 30) = w1 at *
  have c0 := HS.out.cell 0 (by have := HL.out; omega)
  have c1 := HS.out.cell 1 (by have := HL.out; omega)
  have c2 := HS.out.cell 2 (by have := HL.out; omega)
  have c3 := HS.out.cell 3 (by have := HL.out; omega)
  have c4 := HS.out.cell 4 (by have := HL.out; omega)
  have c5 := HS.out.cell 5 (by have := HL.out; omega)
  have c6 := HS.out.cell 6 (by have := HL.out; omega)
  have c7 := HS.out.cell 7 (by have := HL.out; omega)
  obtain ⟨s, hs⟩ : ∃ s, eightOf l = s := ⟨_, rfl⟩
  have HE := Bx.mk hs
  rw [show l.getD 0 0 = s.a by rw [← hs]; rfl] at c0
  rw [show l.getD 1 0 = s.b by rw [← hs]; rfl] at c1
  rw [show l.getD 2 0 = s.c by rw [← hs]; rfl] at c2
  rw [show l.getD 3 0 = s.d by rw [← hs]; rfl] at c3
  rw [show l.getD 4 0 = s.e by rw [← hs]; rfl] at c4
  rw [show l.getD 5 0 = s.f by rw [← hs]; rfl] at c5
  rw [show l.getD 6 0 = s.g by rw [← hs]; rfl] at c6
  rw [show l.getD 7 0 = s.h by rw [← hs]; rfl] at c7
  clear hs
  go_quiet (fail)
  go_wp2
  go_quiet (fail)
  clear c0 c1 c2 c3 c4 c5 c6 c7
  go_outline
  have HI : Bx ((Tryd.prog.info? 37).map (·.size) = some (u8s bs).size) := Bx.mk (by rw [u8s_size, HB.out]; kernel_rfl)
  go_wp2_with (first | (refine wpList_load_row rfl 37 _ rfl (w.heap.size + 1) (by rfl) _ _ _ _ HS.out.2.2.2.1 Tryd.underlying37 rfl HI.out ?_) | (go_at_call 61; (with_reducible refine (spread_any _ _ HB.out).mono ?_); rintro e w2 ⟨rfl, hb2⟩))
  have HM : Bx (Mxd w l bs w2) := Bx.mk (HS.out.later hb2)
  have HT2 : Bx (Tab w2) := Bx.mk (HT.out.later HM.out.1 h0)
  clear hb2 HS HT HI
  obtain ⟨ws, hws⟩ : ∃ ws, words bs = ws := ⟨_, rfl⟩
  have HW := Bx.mk hws
  have HWL : Bx (ws.length = 64) := Bx.mk (by rw [← hws]; exact words_length bs)
  rw [hws]
  clear hws
  go_loopw [6, 7, 8, 9, 10, 11, 12, 13, 38] (fun a b c d e f g h i wr => Rnd w l bs s a b c d e f g h i wr) (fun _ _ _ _ _ _ _ _ i _ => 64 - (intOf i).toNat)
  case atStart => exact ⟨0, Nat.zero_le _, rfl, rfl, rfl, rfl, rfl, rfl, rfl, rfl, rfl, HM.out, HT2.out⟩
  case round =>
    clear HM HT2
    obtain ⟨k, hk, rfl, rfl, rfl, rfl, rfl, rfl, rfl, rfl, rfl, hM, hT⟩ := hrel
    have HM := Bx.mk hM
    have HT := Bx.mk hT
    clear hM hT
    by_cases hlt : k < 64
    · have hix := fun W => idx_row 29 64 ws Tryd.underlying29 HWL.out.symm k (by rw [HWL.out]; exact hlt) W
      have ct := HT.out k hlt
      obtain ⟨x, hx⟩ : ∃ x, ws.getD k 0 = x := ⟨_, rfl⟩
      obtain ⟨y, hy⟩ : ∃ y, kTab.getD k 0 = y := ⟨_, rfl⟩
      obtain ⟨r, hr⟩ : ∃ r, rnds bs s k = r := ⟨_, rfl⟩
      have HN : Bx (rnds bs s (k + 1) = step r x y) := Bx.mk (by show step (rnds bs s k) ((words bs).getD k 0) (kTab.getD k 0) = _; rw [HW.out, hx, hy, hr])
      rw [hx] at hix
      rw [hy] at ct
      rw [hr]
      clear hx hy hr
      have hk1 : (k : Int) < 64 := by omega
      go_wp2
      go_quiet ((go_at_call 59; exact Calls.quiet_of (turn_a _ _)))
      go_wp2_with (go_at_call 59; (with_reducible refine (turn_b _ _).mono ?_); rintro e w' ⟨rfl, rfl⟩)
      go_roundw
      case rel =>
        refine ⟨k + 1, by omega, ?_, ?_, ?_, ?_, ?_, ?_, ?_, ?_, by go_num, HM.out.drewN _, fun i hi => HT.out i hi⟩
        all_goals rw [HN.out]
        · rw [low_uv, high_uv, uv_add]; rfl
        · rfl
        · rfl
        · rfl
        · rw [low_uv, uv_add]; rfl
        · rfl
        · rfl
        · rfl
      case measure => simp [intOf]; omega
    · have ek : k = 64 := by omega
      obtain ⟨r, hr⟩ : ∃ r, rnds bs s k = r := ⟨_, rfl⟩
      have HR : Bx (rnds bs (eightOf l) 64 = r) := Bx.mk (by rw [HE.out, ← ek]; exact hr)
      rw [hr]
      clear hr ek HT
      obtain ⟨k0, rfl⟩ : ∃ k0 : Nat, k0 = k := ⟨_, rfl⟩
      obtain ⟨w0, rfl⟩ : ∃ w0 : World, w0 = wr := ⟨_, rfl⟩
      go_wp2
      go_loopw [99] (fun i wr => ∃ k : Nat, k ≤ 8 ∧ i = .int .i64 k ∧ Mxd w (addW l r.list k) bs wr) (fun i _ => 8 - (intOf i).toNat)
      case atStart => exact ⟨0, Nat.zero_le _, rfl, HM.out⟩
      case round =>
        clear HM
        obtain ⟨k, hk, rfl, hM⟩ := hrel
        have HM := Bx.mk hM
        clear hM
        by_cases hlt : k < 8
        · have hix : ∀ W, (Instr.index 30 (.agg #[.int .u32 (uv r.a), .int .u32 (uv r.b), .int .u32 (uv r.c), .int .u32 (uv r.d), .int .u32 (uv r.e), .int .u32 (uv r.f), .int .u32 (uv r.g), .int .u32 (uv r.h)]) (.int .i64 (k : Int))).run Tryd.prog W = .ok (.int .u32 (uv (r.list.getD k 0))) W := fun W => idx_row 30 8 r.list Tryd.underlying30 rfl k hlt W
          have ca := HM.out.cell k (by rw [addW_length, HL.out]; omega)
          have fa := HM.out.frozen k
          have HN : Bx (Mxd w (addW l r.list (k + 1)) bs (wr.setCell ⟨w.heap.size, k, none⟩ (.int .u32 (uv ((addW l r.list k).getD k 0 + r.list.getD k 0))))) := Bx.mk (HM.out.step k _)
          obtain ⟨x, hx⟩ : ∃ x, (addW l r.list k).getD k 0 = x := ⟨_, rfl⟩
          obtain ⟨y, hy⟩ : ∃ y, r.list.getD k 0 = y := ⟨_, rfl⟩
          rw [hx] at ca HN
          rw [hy] at hix HN
          clear hx hy
          have hk1 : (k : Int) < 8 := by omega
          go_wp2
          go_roundw
          case rel => exact ⟨k + 1, by omega, by go_num, by rw [uv_add]; exact HN.out⟩
          case measure => simp [intOf]; omega
        · have ek : k = 8 := by omega
          obtain ⟨m, hm⟩ : ∃ m, addW l r.list k = m := ⟨_, rfl⟩
          have HX : Bx (mix l bs = m) := Bx.mk (by unfold mix; rw [HR.out, ← ek]; exact hm)
          have HN : Bx (m.length = 8) := Bx.mk (by rw [← hm, addW_length]; exact HL.out)
          have HZ : Bx (Mxd w m bs wr) := Bx.mk (hm ▸ HM.out)
          clear ek hm HM
          have HI : Bx ((Tryd.prog.info? 30).map (·.size) = some (u32s m).size) := Bx.mk (by rw [u32s_size, HN.out]; kernel_rfl)
          have HQ : Bx (wr.there (w.heap.size + 1 + 1) 0 (u32s m).size) := Bx.mk (there_row HZ.out.2.2.2.2 0 _ (by rw [u32s_size, u32s_size, HN.out]; simp))
          have HY : Bx ((wr.setCells (w.heap.size + 1 + 1) 0 (u32s m).toList).heap[w.heap.size + 1 + 1]? = some (.cells (u32s m) 30 (0, 0))) := Bx.mk (heap_setCells_all HZ.out.2.2.2.2 (by rw [u32s_size, u32s_size, HN.out]; simp))
          go_wp2_with (first | (refine wpList_load_row rfl 30 _ rfl w.heap.size (by rfl) _ _ _ _ HZ.out.2.2.1 Tryd.underlying30 rfl HI.out ?_) | (refine wpList_store_mid rfl 30 _ _ rfl (w.heap.size + 1 + 1) 0 _ (by rfl) (by rfl) HQ.out HI.out (one_u32s _) ?_))
          refine bodyPost_ret (results_cell_row rfl _ _ (w.heap.size + 1 + 1) _ (u32s m) _ _ rfl HY.out Tryd.underlying30 rfl HI.out) rfl ?_
          exact ⟨by rw [HX.out], below_setCells (by omega) _ _ _ _ HZ.out.1⟩
end Go.Proofs.YtkfgpnigeknhmaaDoor
