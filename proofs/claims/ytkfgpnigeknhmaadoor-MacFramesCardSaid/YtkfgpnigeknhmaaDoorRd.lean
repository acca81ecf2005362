/-
  The walk of the document's table.
-/
import Derived.Test.YtkfgpnigeknhmaaDoorRc
namespace Go.Proofs.YtkfgpnigeknhmaaDoor
open Go Go.RowKit
/-- No number from 2 below q, whose square is at most p, divides p. -/
def prU (p q : Nat) : Bool := (List.range q).all fun r => decide (r < 2) || decide (p < r * r) || decide (p % r ≠ 0)
theorem prU_two (p : Nat) : prU p 2 = true := by
  unfold prU
  simp [List.range_succ]
theorem prU_succ (p q : Nat) (h2 : 2 ≤ q) (hq : q * q ≤ p) : prU p (q + 1) = (prU p q && decide (p % q ≠ 0)) := by
  unfold prU
  rw [List.range_succ, List.all_append]
  congr 1
  simp only [List.all_cons, List.all_nil, Bool.and_true]
  rw [decide_eq_false (by omega), decide_eq_false (by omega)]
  rfl
theorem prU_more (p q r : Nat) (hq : p < q * q) (h : q ≤ r) : prU p r = prU p q := by
  induction r with
  | zero => rw [show q = 0 by omega]
  | succ r ih =>
    by_cases e : q = r + 1
    · rw [e]
    · rw [← ih (by omega)]
      unfold prU
      rw [List.range_succ, List.all_append]
      have h1 : q * q ≤ r * r := Nat.mul_le_mul (by omega) (by omega)
      simp only [List.all_cons, List.all_nil, Bool.and_true]
      rw [decide_eq_true (show p < r * r by omega)]
      simp
/-- The table's cells when the numbers below d + 2 have been looked at, and how many of them are primes. -/
def mkS : Nat → Nat × List (BitVec 32)
  | 0 => (0, List.replicate 72 0)
  | d + 1 => if prU (d + 2) 18 = true then ((mkS d).1 + 1, if (mkS d).1 < 8 then ((mkS d).2.set (mkS d).1 (BitVec.ofNat 32 (rootN (d + 2) 3 36 0))).set (64 + (mkS d).1) (BitVec.ofNat 32 (rootN (d + 2) 2 36 0)) else (mkS d).2.set (mkS d).1 (BitVec.ofNat 32 (rootN (d + 2) 3 36 0))) else mkS d
/-- The same, reckoned on. -/
def mkR : Nat → Nat → Nat × List (BitVec 32) → Nat × List (BitVec 32)
  | 0, _, s => s
  | k + 1, d, s => mkR k (d + 1) (if prU (d + 2) 18 = true then (s.1 + 1, if s.1 < 8 then (s.2.set s.1 (BitVec.ofNat 32 (rootN (d + 2) 3 36 0))).set (64 + s.1) (BitVec.ofNat 32 (rootN (d + 2) 2 36 0)) else s.2.set s.1 (BitVec.ofNat 32 (rootN (d + 2) 3 36 0))) else s)
theorem mkR_eq (k d : Nat) : mkR k d (mkS d) = mkS (d + k) := by
  induction k generalizing d with
  | zero => rfl
  | succ k ih => rw [mkR]; rw [show d + (k + 1) = (d + 1) + k by omega, ← ih (d + 1)]; rfl
theorem mkR_all : mkR 310 0 (0, List.replicate 72 0) = (64, kTab ++ hTab) := by decide +kernel
theorem mkS_all : mkS 310 = (64, kTab ++ hTab) := by
  rw [← mkR_all]
  exact (mkR_eq 310 0).symm
theorem mkR_last : (mkR 309 0 (0, List.replicate 72 0)).1 = 63 := by decide +kernel
theorem mkS_last : (mkS 309).1 = 63 := by
  rw [← mkR_last]
  exact congrArg Prod.fst (mkR_eq 309 0).symm
theorem mkS_up (d : Nat) : (mkS d).1 ≤ (mkS (d + 1)).1 := by
  show (mkS d).1 ≤ (if prU (d + 2) 18 = true then _ else mkS d).1
  split
  · exact Nat.le_succ _
  · exact Nat.le_refl _
theorem mkS_mono (d k : Nat) : (mkS d).1 ≤ (mkS (d + k)).1 := by
  induction k with
  | zero => exact Nat.le_refl _
  | succ k ih => exact Nat.le_trans ih (mkS_up (d + k))
theorem mkS_end (d : Nat) (hd : d ≤ 310) (h : 64 ≤ (mkS d).1) : d = 310 := by
  by_cases e : d = 310
  · exact e
  · have := mkS_mono d (309 - d)
    rw [show d + (309 - d) = 309 by omega, mkS_last] at this
    omega
theorem mkS_length (d : Nat) : (mkS d).2.length = 72 := by
  induction d with
  | zero => rfl
  | succ d ih =>
    rw [mkS]
    split
    · simp only []
      split <;> simp [ih]
    · exact ih
/-- The memory while the table is made. -/
def Tbl (w : World) (l : List (BitVec 32)) (wr : World) : Prop :=
  Below w.heap.size w wr ∧ w.heap.size + 2 ≤ wr.heap.size ∧ wr.heap[w.heap.size]? = some (.cells (u32s (List.replicate 72 0)) 32 (0, 0)) ∧ wr.heap[w.heap.size + 1]? = some (.cells (u32s l) 32 (0, 0))
theorem Tbl.step {w wr : World} {l : List (BitVec 32)} (h : Tbl w l wr) (i : Nat) (x : BitVec 32) : Tbl w (l.set i x) (wr.setCell ⟨w.heap.size + 1, i, none⟩ (.int .u32 (uv x))) := by
  obtain ⟨h1, h2, h3, h4⟩ := h
  refine ⟨h1.setCell (by simp only []; omega) _, by simpa using h2, ?_, ?_⟩
  · rw [heap_setCell_other _ _ _ _ (by simp only []; omega)]; exact h3
  · rw [heap_setCell_same wr _ _ _ _ _ h4, u32s_set]
theorem Tbl.later {w wr w2 : World} {l : List (BitVec 32)} (h : Tbl w l wr) (hb : Below wr.heap.size wr w2) : Tbl w l w2 :=
  ⟨h.1.trans (hb.mono h.1.size), Nat.le_trans h.2.1 hb.size, by rw [hb.block _ (by have := h.2.1; omega)]; exact h.2.2.1, by rw [hb.block _ (by have := h.2.1; omega)]; exact h.2.2.2⟩
theorem Tbl.cell {w wr : World} {l : List (BitVec 32)} (h : Tbl w l wr) (i : Nat) (hi : i < l.length) : wr.cell? ⟨w.heap.size + 1, i, none⟩ = some (.int .u32 (uv (l.getD i 0))) := by
  rw [cell_of_row _ _ _ _ _ _ h.2.2.2]; exact u32s_get _ _ hi
theorem Tbl.frozen {w wr : World} {l : List (BitVec 32)} (h : Tbl w l wr) (i : Nat) : wr.frozen? ⟨w.heap.size + 1, i, none⟩ = false := frozen_of_row _ _ _ _ _ h.2.2.2
theorem root3 (p : Nat) (w : World) (hp : p < 65536) : Calls Tryd.prog 41 #[.int .u64 (p : Int), .int .u64 3] w fun e w' => e = .returned (.int .u32 (uv (BitVec.ofNat 32 (rootN p 3 36 0)))) ∧ Below w.heap.size w w' := root_any 3 p w (.inr rfl) hp
theorem root2 (p : Nat) (w : World) (hp : p < 65536) : Calls Tryd.prog 41 #[.int .u64 (p : Int), .int .u64 2] w fun e w' => e = .returned (.int .u32 (uv (BitVec.ofNat 32 (rootN p 2 36 0)))) ∧ Below w.heap.size w w' := root_any 2 p w (.inl rfl) hp
set_option maxRecDepth 100000 in
set_option maxHeartbeats 1000000 in
theorem make_any (w : World) : Calls Tryd.prog 13 #[] w fun e w' => e = .returned (.agg (u32s (kTab ++ hTab))) ∧ Below w.heap.size w w' := by
  obtain ⟨zc, hzc⟩ : ∃ zc, u32s (List.replicate 72 0) = zc := ⟨_, rfl⟩
  have hzv : ∀ W : World, (zeroValue 32).run Tryd.prog W = .ok (.agg zc) W := fun W => by rw [← hzc]; kernel_rfl
  have HZ := Bx.mk hzc
  have hzs : zc.size = 72 := by rw [← hzc, u32s_size]; rfl
  have HI : Bx ((Tryd.prog.info? 32).map (·.size) = some zc.size) := Bx.mk (by rw [hzs]; kernel_rfl)
  have HO : Bx (zc.all (·.oneCell') = true) := Bx.mk (by rw [← hzc]; exact one_u32s _)
  have HN : Bx (((w.alloc (.cells zc 32)).alloc (.cells zc 32)).heap[w.heap.size + 1]? = some (.cells zc 32 (0, 0))) := Bx.mk (hnew _ _ _ (by simp))
  have HT : Bx (((w.alloc (.cells zc 32)).alloc (.cells zc 32)).there (w.heap.size + 1) 0 zc.size) := Bx.mk (there_row HN.out 0 _ (by omega))
  have H0 : Bx (Tbl w (mkS 0).2 (((w.alloc (.cells zc 32)).alloc (.cells zc 32)).setCells (w.heap.size + 1) 0 zc.toList)) := Bx.mk (by
    refine ⟨below_setCells (by omega) _ _ _ _ (((Below.refl _ _).alloc (Nat.le_refl _) _).alloc (by simp) _), by rw [size_setCells]; simp, ?_, ?_⟩
    · rw [heap_setCells_other _ _ (by omega), hold _ _ _ (by simp), hnew _ _ _ rfl, HZ.out]
    · rw [heap_setCells_all HN.out rfl, ← HZ.out]; rfl)
  clear hzc hzs
  go_enter Tryd.func13, Tryd.ntmps13
  go_wp2_with (refine wpList_store_mid rfl 32 _ _ rfl (w.heap.size + 1) 0 _ (by rfl) (by rfl) HT.out HI.out HO.out ?_)
  clear HT HN HO hzv
  generalize ((w.alloc (.cells zc 32)).alloc (.cells zc 32)).setCells (w.heap.size + 1) 0 zc.toList = w1 at *
  go_loopw [2, 3] (fun nn pp wr => ∃ d n : Nat, d ≤ 310 ∧ pp = .int .u64 ((d + 2 : Nat) : Int) ∧ nn = .int .i64 (n : Int) ∧ Bx ((mkS d).1 = n ∧ Tbl w (mkS d).2 wr)) (fun _ pp _ => 312 - (intOf pp).toNat)
  case atStart => exact ⟨0, 0, by omega, rfl, rfl, Bx.mk ⟨rfl, H0.out⟩⟩
  case round =>
    clear H0
    obtain ⟨d, n, hd, rfl, rfl, HE⟩ := hrel
    by_cases hlt : n < 64
    · have hd2 : d < 310 := by
        by_cases h : d = 310
        · have := HE.out.1; rw [h, mkS_all] at this; simp only [] at this; omega
        · omega
      have hn1 : (n : Int) < 64 := by omega
      obtain ⟨p, hp⟩ : ∃ p, d + 2 = p := ⟨_, rfl⟩
      have HP := Bx.mk hp
      have hp1 : p ≤ 311 := by omega
      have hp2 : 2 ≤ p := by omega
      rw [hp]
      clear hp
      obtain ⟨wo, rfl⟩ : ∃ wo : World, wo = wr := ⟨_, rfl⟩
      go_wp2
      go_loop [4, 5] (fun pr qq => ∃ q : Nat, ∃ r : Bool, 2 ≤ q ∧ q ≤ 18 ∧ qq = .int .u64 (q : Int) ∧ pr = .bool r ∧ Bx (prU p q = r)) (fun _ qq => 18 - (intOf qq).toNat)
      case atStart => exact ⟨2, true, by omega, by omega, rfl, rfl, Bx.mk (prU_two p)⟩
      case round =>
        obtain ⟨q, r, hq2, hq18, rfl, rfl, HR⟩ := hrel
        by_cases hqp : q * q ≤ p
        · have hq17 : q ≤ 17 := by
            by_cases h : q = 18
            · subst h; omega
            · omega
          have t1 : (q : Int) * (q : Int) ≤ (p : Int) := by rw [← Int.natCast_mul]; omega
          have t0 : 0 ≤ (q : Int) * (q : Int) := by rw [← Int.natCast_mul]; omega
          have HS : Bx (prU p (q + 1) = (r && decide (p % q ≠ 0))) := Bx.mk (by rw [prU_succ p q hq2 hqp, HR.out])
          have tq : (q : Int) ≠ 0 := by omega
          cases r with
          | true =>
            by_cases hz : p % q = 0
            · have t2 : (((p : Int) % (q : Int)) != 0) = false := by rw [← Int.natCast_emod, hz]; rfl
              have HN : Bx (prU p (q + 1) = false) := Bx.mk (by rw [HS.out, decide_eq_false (by simpa using hz)]; rfl)
              clear HR HS hz
              go_wp2
              go_round
              case rel => exact ⟨q + 1, false, by omega, by omega, by go_num, rfl, HN⟩
              case measure => simp [intOf]; omega
            · have t2 : (((p : Int) % (q : Int)) != 0) = true := by
                rw [← Int.natCast_emod]
                simp only [bne_iff_ne, ne_eq]
                omega
              have HN : Bx (prU p (q + 1) = true) := Bx.mk (by rw [HS.out, decide_eq_true (by simpa using hz)]; rfl)
              clear HR HS hz
              go_wp2
              go_round
              case rel => exact ⟨q + 1, true, by omega, by omega, by go_num, rfl, HN⟩
              case measure => simp [intOf]; omega
          | false =>
            have HN : Bx (prU p (q + 1) = false) := Bx.mk (by rw [HS.out]; rfl)
            clear HR HS
            go_wp2
            go_round
            case rel => exact ⟨q + 1, false, by omega, by omega, by go_num, rfl, HN⟩
            case measure => simp [intOf]; omega
        · have t1 : ¬ (q : Int) * (q : Int) ≤ (p : Int) := by rw [← Int.natCast_mul]; omega
          have t0 : 0 ≤ (q : Int) * (q : Int) := by rw [← Int.natCast_mul]; omega
          have t3 : (q : Int) * (q : Int) ≤ 324 := by rw [← Int.natCast_mul]; have := Nat.mul_le_mul hq18 hq18; omega
          have HF : Bx (prU p 18 = r) := Bx.mk (by rw [prU_more p q 18 (by omega) hq18, HR.out])
          clear HR
          cases r with
          | false =>
            have HN : Bx ((mkS (d + 1)).1 = n ∧ Tbl w (mkS (d + 1)).2 wo) := Bx.mk (by
              have e : mkS (d + 1) = mkS d := by
                show (if prU (d + 2) 18 = true then _ else mkS d) = mkS d
                rw [HP.out, HF.out, if_neg (by simp)]
              rw [e]; exact HE.out)
            clear HF HE
            go_wp2
            go_roundw
            case rel => exact ⟨d + 1, n, by omega, by rw [← HP.out]; go_num, rfl, HN⟩
            case measure => simp [intOf]; omega
          | true =>
            have HL : Bx ((mkS d).2.length = 72) := Bx.mk (mkS_length d)
            have HTb : Bx (Tbl w (mkS d).2 wo) := Bx.mk HE.out.2
            have HS : Bx (mkS (d + 1) = (n + 1, if n < 8 then ((mkS d).2.set n (BitVec.ofNat 32 (rootN p 3 36 0))).set (64 + n) (BitVec.ofNat 32 (rootN p 2 36 0)) else (mkS d).2.set n (BitVec.ofNat 32 (rootN p 3 36 0)))) := Bx.mk (by
              show (if prU (d + 2) 18 = true then _ else mkS d) = _
              rw [HP.out, HF.out, if_pos rfl, HE.out.1])
            have HC3 := Bx.mk (fun W => root3 p W (by omega))
            have HC2 := Bx.mk (fun W => root2 p W (by omega))
            clear HF HE
            generalize BitVec.ofNat 32 (rootN p 3 36 0) = r3 at *
            generalize BitVec.ofNat 32 (rootN p 2 36 0) = r2 at *
            generalize (mkS d).2 = l at *
            go_wp2_with fail
            refine (HC3.out _).mono ?_
            rintro e w2 ⟨rfl, hb2⟩
            have H2 : Bx (Tbl w l w2) := Bx.mk (HTb.out.later hb2)
            clear hb2 HTb HC3
            have c1 := H2.out.cell n (by rw [HL.out]; omega)
            have f1 := H2.out.frozen n
            have H3 : Bx (Tbl w (l.set n r3) (w2.setCell ⟨w.heap.size + 1, n, none⟩ (.int .u32 (uv r3)))) := Bx.mk (H2.out.step n r3)
            clear H2
            by_cases h8 : n < 8
            · have h81 : (n : Int) < 8 := by omega
              go_wp2_with fail
              generalize w2.setCell ⟨w.heap.size + 1, n, none⟩ (.int .u32 (uv r3)) = w3 at *
              refine (HC2.out _).mono ?_
              rintro e w4 ⟨rfl, hb4⟩
              have H4 : Bx (Tbl w (l.set n r3) w4) := Bx.mk (H3.out.later hb4)
              clear hb4 H3 HC2 c1 f1
              have c2 := H4.out.cell (64 + n) (by rw [List.length_set, HL.out]; omega)
              have f2 := H4.out.frozen (64 + n)
              have H5 : Bx ((mkS (d + 1)).1 = n + 1 ∧ Tbl w (mkS (d + 1)).2 (w4.setCell ⟨w.heap.size + 1, 64 + n, none⟩ (.int .u32 (uv r2)))) := Bx.mk (by
                rw [HS.out]; exact ⟨rfl, by rw [if_pos h8]; exact H4.out.step (64 + n) r2⟩)
              clear H4 HS
              go_wp2
              go_roundw
              case rel => exact ⟨d + 1, n + 1, by omega, by rw [← HP.out]; go_num, by go_num, H5⟩
              case measure => simp [intOf]; omega
            · have h81 : ¬ (n : Int) < 8 := by omega
              have H5 : Bx ((mkS (d + 1)).1 = n + 1 ∧ Tbl w (mkS (d + 1)).2 (w2.setCell ⟨w.heap.size + 1, n, none⟩ (.int .u32 (uv r3)))) := Bx.mk (by
                rw [HS.out]; exact ⟨rfl, by rw [if_neg h8]; exact H3.out⟩)
              clear H3 HS HC2
              go_wp2
              go_roundw
              case rel => exact ⟨d + 1, n + 1, by omega, by rw [← HP.out]; go_num, by go_num, H5⟩
              case measure => simp [intOf]; omega
    · have HF : Bx (Tbl w (kTab ++ hTab) wr) := Bx.mk (by
        have e := mkS_end d hd (by rw [HE.out.1]; omega)
        have h := HE.out.2
        rw [e, mkS_all] at h
        exact h)
      have HLn : Bx ((kTab ++ hTab).length = 72) := Bx.mk rfl
      clear HE
      obtain ⟨l, hl⟩ : ∃ l, kTab ++ hTab = l := ⟨_, rfl⟩
      rw [hl] at HF HLn
      have HX := Bx.mk hl
      clear hl
      have HIl : Bx ((Tryd.prog.info? 32).map (·.size) = some (u32s l).size) := Bx.mk (by rw [u32s_size, HLn.out]; kernel_rfl)
      have HT : Bx (wr.there w.heap.size 0 (u32s l).size) := Bx.mk (there_row HF.out.2.2.1 0 _ (by rw [u32s_size, u32s_size, HLn.out]; simp))
      have HY : Bx ((wr.setCells w.heap.size 0 (u32s l).toList).heap[w.heap.size]? = some (.cells (u32s l) 32 (0, 0))) := Bx.mk (heap_setCells_all HF.out.2.2.1 (by rw [u32s_size, u32s_size, HLn.out]; simp))
      have hn1 : ¬ (n : Int) < 64 := by omega
      go_wp2_with (first | (refine wpList_load_row rfl 32 _ rfl (w.heap.size + 1) (by rfl) _ _ _ _ HF.out.2.2.2 Tryd.underlying32 rfl HIl.out ?_) | (refine wpList_store_mid rfl 32 _ _ rfl w.heap.size 0 _ (by rfl) (by rfl) HT.out HIl.out (one_u32s _) ?_))
      refine bodyPost_ret (results_cell_row rfl _ _ w.heap.size _ (u32s l) _ _ rfl HY.out Tryd.underlying32 rfl HIl.out) rfl ?_
      exact ⟨by rw [HX.out], below_setCells (Nat.le_refl _) _ _ _ _ HF.out.1⟩
end Go.Proofs.YtkfgpnigeknhmaaDoor
