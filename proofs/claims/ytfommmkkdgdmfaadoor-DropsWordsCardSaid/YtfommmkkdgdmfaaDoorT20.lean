/-
  The reasons' words: laid, and told.
-/
import Derived.Test.YtfommmkkdgdmfaaDoorGo
import Derived.Lib.LaidTab
import Derived.ChangeArms
import Derived.OpenShut
namespace Go.Proofs.YtfommmkkdgdmfaaDoor
open Go Go.RowKit
/-- The words, as bytes, by their numbers. -/
def wordsL : List (List UInt8) := [[], [97, 114, 103], [108, 111, 110, 103], [102, 111, 114, 109], [101, 110, 100], [116, 97, 103], [102, 117, 108, 108], [110, 111, 110, 101], [116, 119, 105, 99, 101], [111, 108, 100], [114, 97, 110, 103, 101], [115, 116, 97, 116, 101], [114, 111, 108, 101], [107, 105, 110, 100], [103, 111, 110, 101], [113, 117, 111, 116, 97]]
/-- A word as a value. -/
def wordV (s : List UInt8) : Value := .string ⟨s.toArray⟩
/-- The listed variable's cells hold the words. -/
def WordsAt (W : World) : Prop := ∀ k : Nat, k < 16 → W.cell? ⟨0, k, none⟩ = some (wordV (wordsL.getD k []))
theorem WordsAt.later {W W1 : World} (h : WordsAt W) (hb : Below W.heap.size W W1) : WordsAt W1 := fun k hk => (hb.cell (p := ⟨0, k, none⟩) (World.block_lt_of_cell? _ _ (h k hk))).trans (h k hk)
theorem gWords : Tryd.prog.globalNamed "vigil/drops.words" = some 0 := by kernel_rfl
theorem gWordsType : (Tryd.prog.globals[0]?).map (·.type) = some 22 := by kernel_rfl
theorem cellsStr : Tryd.prog.cellsOf 9 = 1 := by kernel_rfl
theorem laidWords_is : (Rows.laid_vigil_drops_words : DataW Unit) = .agg (wordsL.map fun s => .lit (.string s)) := by kernel_rfl
open Go.ChangeShapes Go.WideShapes Go.ChangeAt in
theorem words_of {W : World} (h : laidMet Tryd.prog [("vigil/drops.words", Rows.laid_vigil_drops_words)] W) : WordsAt W := by
  rw [laidWords_is] at h
  obtain ⟨ps, ⟨g', t', cs, fuel, p, q, hg', ht', hvar, hd, _, _⟩, _⟩ := h
  obtain rfl := Option.some.inj (gWords.symm.trans hg')
  obtain rfl := Option.some.inj (gWordsType.symm.trans ht')
  obtain ⟨xs, m, -, hx, hlen, hxl, hf⟩ := DataW.trod_array Tryd.underlying22 hd
  intro k hk
  have hxs : wordsL.map (fun s => (DataW.lit (.string s) : DataW Unit)) = xs.map (·.1) := by
    have := congrArg Prod.fst hx
    simpa using this
  have hkx : k < xs.length := by omega
  have hkw : k < wordsL.length := hk
  have h1 := hf k hk
  rw [cellsStr, Nat.mul_one, List.getElem?_eq_getElem hkx] at h1
  obtain ⟨s, hc, hy, -⟩ := DataW.trod_string Tryd.underlying9 h1
  have h2 : (xs.map (·.1))[k]? = some (xs[k]).1 := by rw [List.getElem?_map, List.getElem?_eq_getElem hkx]; rfl
  rw [← hxs, List.getElem?_map, List.getElem?_eq_getElem hkw, hy] at h2
  have h3 : s.data.toList = wordsL[k] := by
    simp at h2
    exact h2.symm
  have h4 : cs[k]? = some (.string s) := by
    have := congrArg (·[0]?) hc
    simpa [List.getElem?_take, List.getElem?_drop] using this
  have h5 := World.var?_cell gWords hvar k
  rw [h5]
  have h6 : s = ⟨(wordsL[k]).toArray⟩ := by rw [← h3]
  rw [List.getD_eq_getElem?_getD, List.getElem?_eq_getElem hkw]
  simp [h4, h6, wordV]
/-- A world for the witness: the variable holds what its initialiser lays. -/
noncomputable def laidWorld13 (os : Os) : World :=
  { World.holding Tryd.prog os ⟨#[], #[], []⟩ with heap := (World.holding Tryd.prog os ⟨#[], #[], []⟩).heap.modify 0 fun
      | .cells _ t frozen => .cells (wordsL.map wordV).toArray t frozen
      | o => o }
set_option maxRecDepth 100000 in
set_option maxHeartbeats 4000000 in
theorem word_any13 (e : Int) (w : World) (h : WordsAt w) : Calls Tryd.prog 7 #[.int .i64 e] w fun x w' => x = .returned (wordV (if isRe e = true then wordsL.getD e.toNat [] else [])) ∧ w' = w := by
  have HR := Bx.mk (reason_any e)
  by_cases hr : isRe e = true
  · rw [if_pos hr]
    obtain ⟨h1, h2⟩ := (isRe_iff e).1 hr
    obtain ⟨k, rfl⟩ : ∃ k : Nat, e = (k : Int) := ⟨e.toNat, by omega⟩
    rw [hr] at HR
    have ck := h k (by omega)
    rw [Int.toNat_natCast]
    unfold wordV at *
    generalize wordsL.getD k [] = s at *
    have hk3 : (k : Int) < 16 := by omega
    have hk4 : (0 : Int) ≤ (k : Int) := by omega
    clear h hr h1 h2
    go_enter Tryd.func7, Tryd.ntmps7
    go_wp2_with (refine (HR.out _).mono ?_; rintro x w2 ⟨rfl, rfl⟩)
    skip -- M1
    go_ret
    exact ⟨rfl, rfl⟩
  · rw [if_neg hr]
    rw [Bool.not_eq_true] at hr
    rw [hr] at HR
    clear h hr
    go_enter Tryd.func7, Tryd.ntmps7
    go_wp2_with (refine (HR.out _).mono ?_; rintro x w2 ⟨rfl, rfl⟩)
    go_ret
    exact ⟨rfl, rfl⟩
theorem infoS (n : Nat) (h : n = 16) : (Tryd.prog.info? 22).map (·.size) = some n := by subst h; kernel_rfl
set_option maxRecDepth 100000 in
set_option maxHeartbeats 4000000 in
theorem words_any13 (w : World) : Calls Tryd.prog 4 #[] w fun x w' => x = .returned (.agg (wordsL.map wordV).toArray) ∧ Below w.heap.size w w' := by
  have HR : Bx ((w.alloc (.cells ((List.replicate 16 []).map wordV).toArray 22)).heap[w.heap.size]? = some (.cells ((List.replicate 16 []).map wordV).toArray 22 (0, 0))) := Bx.mk (hnew _ _ _ rfl)
  have HI := Bx.mk (infoS (wordsL.map wordV).toArray.size rfl)
  have HO : Bx ((wordsL.map wordV).toArray.all (·.oneCell') = true) := Bx.mk (by kernel_rfl)
  have HSz : Bx ((wordsL.map wordV).toArray.size = ((List.replicate 16 []).map wordV).toArray.size) := Bx.mk rfl
  go_enter Tryd.func4, Tryd.ntmps4
  go_wp2_with (refine wpList_store_new rfl 22 _ _ rfl w.heap.size (wordsL.map wordV).toArray _ _ (by rfl) (by rfl) HR.out HSz.out HI.out HO.out ?_; intro w2 hw2 hr2; have HR2 := Bx.mk hr2; have HB2 : Bx (Below w.heap.size w w2) := Bx.mk (by rw [hw2]; exact below_setCells (Nat.le_refl _) _ _ _ _ (below_a _)); clear hw2 hr2 HR)
  skip -- M2
  refine bodyPost_ret (results_cell_row rfl _ _ w.heap.size _ _ _ _ rfl HR2.out Tryd.underlying22 rfl HI.out) rfl ?_
  exact ⟨rfl, HB2.out⟩
theorem words_at0 (W : World) : (Instr.index 22 (.agg (wordsL.map wordV).toArray) (.int .i64 ((0 : Nat) : Int))).run Tryd.prog W = .ok (wordV (wordsL.getD 0 [])) W := by kernel_rfl
theorem words_at1 (W : World) : (Instr.index 22 (.agg (wordsL.map wordV).toArray) (.int .i64 ((1 : Nat) : Int))).run Tryd.prog W = .ok (wordV (wordsL.getD 1 [])) W := by kernel_rfl
theorem words_at2 (W : World) : (Instr.index 22 (.agg (wordsL.map wordV).toArray) (.int .i64 ((2 : Nat) : Int))).run Tryd.prog W = .ok (wordV (wordsL.getD 2 [])) W := by kernel_rfl
theorem words_at3 (W : World) : (Instr.index 22 (.agg (wordsL.map wordV).toArray) (.int .i64 ((3 : Nat) : Int))).run Tryd.prog W = .ok (wordV (wordsL.getD 3 [])) W := by kernel_rfl
theorem words_at4 (W : World) : (Instr.index 22 (.agg (wordsL.map wordV).toArray) (.int .i64 ((4 : Nat) : Int))).run Tryd.prog W = .ok (wordV (wordsL.getD 4 [])) W := by kernel_rfl
theorem words_at5 (W : World) : (Instr.index 22 (.agg (wordsL.map wordV).toArray) (.int .i64 ((5 : Nat) : Int))).run Tryd.prog W = .ok (wordV (wordsL.getD 5 [])) W := by kernel_rfl
theorem words_at6 (W : World) : (Instr.index 22 (.agg (wordsL.map wordV).toArray) (.int .i64 ((6 : Nat) : Int))).run Tryd.prog W = .ok (wordV (wordsL.getD 6 [])) W := by kernel_rfl
theorem words_at7 (W : World) : (Instr.index 22 (.agg (wordsL.map wordV).toArray) (.int .i64 ((7 : Nat) : Int))).run Tryd.prog W = .ok (wordV (wordsL.getD 7 [])) W := by kernel_rfl
theorem words_at8 (W : World) : (Instr.index 22 (.agg (wordsL.map wordV).toArray) (.int .i64 ((8 : Nat) : Int))).run Tryd.prog W = .ok (wordV (wordsL.getD 8 [])) W := by kernel_rfl
theorem words_at9 (W : World) : (Instr.index 22 (.agg (wordsL.map wordV).toArray) (.int .i64 ((9 : Nat) : Int))).run Tryd.prog W = .ok (wordV (wordsL.getD 9 [])) W := by kernel_rfl
theorem words_at10 (W : World) : (Instr.index 22 (.agg (wordsL.map wordV).toArray) (.int .i64 ((10 : Nat) : Int))).run Tryd.prog W = .ok (wordV (wordsL.getD 10 [])) W := by kernel_rfl
theorem words_at11 (W : World) : (Instr.index 22 (.agg (wordsL.map wordV).toArray) (.int .i64 ((11 : Nat) : Int))).run Tryd.prog W = .ok (wordV (wordsL.getD 11 [])) W := by kernel_rfl
theorem words_at12 (W : World) : (Instr.index 22 (.agg (wordsL.map wordV).toArray) (.int .i64 ((12 : Nat) : Int))).run Tryd.prog W = .ok (wordV (wordsL.getD 12 [])) W := by kernel_rfl
theorem words_at13 (W : World) : (Instr.index 22 (.agg (wordsL.map wordV).toArray) (.int .i64 ((13 : Nat) : Int))).run Tryd.prog W = .ok (wordV (wordsL.getD 13 [])) W := by kernel_rfl
theorem words_at14 (W : World) : (Instr.index 22 (.agg (wordsL.map wordV).toArray) (.int .i64 ((14 : Nat) : Int))).run Tryd.prog W = .ok (wordV (wordsL.getD 14 [])) W := by kernel_rfl
theorem words_at15 (W : World) : (Instr.index 22 (.agg (wordsL.map wordV).toArray) (.int .i64 ((15 : Nat) : Int))).run Tryd.prog W = .ok (wordV (wordsL.getD 15 [])) W := by kernel_rfl
theorem words_at (k : Nat) (hk : k < 16) (W : World) : (Instr.index 22 (.agg (wordsL.map wordV).toArray) (.int .i64 (k : Int))).run Tryd.prog W = .ok (wordV (wordsL.getD k [])) W := by
  have h : k = 0 ∨ k = 1 ∨ k = 2 ∨ k = 3 ∨ k = 4 ∨ k = 5 ∨ k = 6 ∨ k = 7 ∨ k = 8 ∨ k = 9 ∨ k = 10 ∨ k = 11 ∨ k = 12 ∨ k = 13 ∨ k = 14 ∨ k = 15 := by omega
  rcases h with rfl | rfl | rfl | rfl | rfl | rfl | rfl | rfl | rfl | rfl | rfl | rfl | rfl | rfl | rfl | rfl
  · exact words_at0 W
  · exact words_at1 W
  · exact words_at2 W
  · exact words_at3 W
  · exact words_at4 W
  · exact words_at5 W
  · exact words_at6 W
  · exact words_at7 W
  · exact words_at8 W
  · exact words_at9 W
  · exact words_at10 W
  · exact words_at11 W
  · exact words_at12 W
  · exact words_at13 W
  · exact words_at14 W
  · exact words_at15 W
end Go.Proofs.YtfommmkkdgdmfaaDoor
namespace Go.Proofs.YtfommmkkdgdmfaaDoor
open Go Go.RowKit
set_option maxRecDepth 100000 in
set_option maxHeartbeats 4000000 in
theorem dwords_all (n : Int) (w : World) (h : WordsAt w) : Calls Tryd.prog 3 #[.int .i64 n] w fun e w' => e = .returned (.bool true) ∧ Below w.heap.size w w' := by
  have HW := Bx.mk h
  have HAl : Bx (∀ W, Calls Tryd.prog 11 #[.pointer none] W fun x w' => x = .returned (.agg #[.int .i64 0, .int .i64 0, .int .i64 0, .int .i64 0, .int .i64 0, .int .i64 0, .int .i64 0, .int .i64 0, .int .i64 0, .int .i64 0, .int .i64 0, .int .i64 0, .int .i64 0, .int .i64 0, .int .i64 0, .int .i64 0]) ∧ Below W.heap.size W w') := Bx.mk fun W => all_nil13 W
  have heq : ∀ W : World, (binOp BinOp.eql 33 (.agg #[.int .i64 0, .int .i64 0, .int .i64 0, .int .i64 0, .int .i64 0, .int .i64 0, .int .i64 0, .int .i64 0, .int .i64 0, .int .i64 0, .int .i64 0, .int .i64 0, .int .i64 0, .int .i64 0, .int .i64 0, .int .i64 0]) (.agg #[.int .i64 0, .int .i64 0, .int .i64 0, .int .i64 0, .int .i64 0, .int .i64 0, .int .i64 0, .int .i64 0, .int .i64 0, .int .i64 0, .int .i64 0, .int .i64 0, .int .i64 0, .int .i64 0, .int .i64 0, .int .i64 0])).run Tryd.prog W = .ok (.bool true) W := fun W => arr_eql13 z16 z16 rfl rfl W
  have hbz : ∀ W : World, (Instr.build 33 #[]).run Tryd.prog W = .ok (.agg #[.int .i64 0, .int .i64 0, .int .i64 0, .int .i64 0, .int .i64 0, .int .i64 0, .int .i64 0, .int .i64 0, .int .i64 0, .int .i64 0, .int .i64 0, .int .i64 0, .int .i64 0, .int .i64 0, .int .i64 0, .int .i64 0]) W := fun W => by kernel_rfl
  clear h
  by_cases h1 : 0 < n
  · by_cases h2 : n < 16
    · have HWd := Bx.mk fun (W : World) (h : WordsAt W) => word_any13 n W h
      rw [if_pos ((isRe_iff n).2 (by omega))] at HWd
      obtain ⟨k, rfl⟩ : ∃ k : Nat, n = (k : Int) := ⟨n.toNat, by omega⟩
      have hix := words_at k (by omega)
      have HWs := Bx.mk (words_any13 w)
      rw [Int.toNat_natCast] at HWd
      generalize wordsL.getD k [] = s at *
      generalize (wordsL.map wordV).toArray = ws at *
      unfold wordV at *
      have d1 : decide (0 < (k : Int)) = true := decide_eq_true h1
      have d2 : decide ((k : Int) < 16) = true := decide_eq_true h2
      go_enter Tryd.func3, Tryd.ntmps3
      go_wp2_with fail
      refine (HWs.out).mono ?_
      rintro e w0 ⟨rfl, hb⟩
      have B0 := Bx.mk hb
      clear hb
      skip -- M1
      go_wp2_with fail
      refine (worst_nil13 w0).mono ?_
      rintro e w1 ⟨rfl, hb⟩
      have B1 := Bx.mk (B0.out.trans (hb.mono B0.out.size))
      clear hb B0
      skip -- M2
      go_wp2_with fail
      refine (known13_any w1).mono ?_
      rintro e w2 ⟨rfl, hb⟩
      have B2 := Bx.mk (B1.out.trans (hb.mono B1.out.size))
      clear hb B1
      skip -- M3
      go_wp2_with fail
      refine (HWd.out w2 (HW.out.later B2.out)).mono ?_
      rintro e w3 ⟨rfl, hw⟩
      obtain rfl : w2 = w3 := hw.symm
      clear hw
      skip -- M4
      go_wp2_with fail
      refine (count_nil13 _ _).mono ?_
      rintro e w4 ⟨rfl, hw⟩
      have B4 : Bx (Below w.heap.size w w4) := Bx.mk (by rw [hw]; exact B2.out.trans ((below_a _).mono B2.out.size))
      clear hw B2
      go_wp2_with fail
      refine (of_nil13 (k : Int) w4).mono ?_
      rintro e w5 ⟨rfl, hw⟩
      obtain rfl : w4 = w5 := hw.symm
      clear hw
      go_wp2_with fail
      refine (total_nil13 w4).mono ?_
      rintro e w6 ⟨rfl, hb⟩
      have B6 := Bx.mk (B4.out.trans (hb.mono B4.out.size))
      clear hb B4
      go_wp2_with fail
      refine (HAl.out w6).mono ?_
      rintro e w7 ⟨rfl, hb⟩
      have B7 := Bx.mk (B6.out.trans (hb.mono B6.out.size))
      clear hb B6
      skip -- M5
      go_wp2_with fail
      refine (join_nil13 _ w7).mono ?_
      rintro e w8 ⟨rfl, hw⟩
      obtain rfl : w7 = w8 := hw.symm
      clear hw
      go_wp2_with fail
      refine (copy_nil13 w7).mono ?_
      rintro e w8 ⟨rfl, hw⟩
      obtain rfl : w7 = w8 := hw.symm
      clear hw
      go_wp2_with fail
      refine (same_nils13 w7).mono ?_
      rintro e w8 ⟨rfl, hw⟩
      obtain rfl : w7 = w8 := hw.symm
      clear hw
      go_wp2
      go_ret
      exact ⟨rfl, B7.out⟩
    · have HWd := Bx.mk fun (W : World) (h : WordsAt W) => word_any13 n W h
      rw [if_neg (fun h => h2 (by have := (isRe_iff n).1 h; omega))] at HWd
      unfold wordV at HWd
      have d1 : decide (0 < n) = true := decide_eq_true h1
      have d2 : decide (n < 16) = false := decide_eq_false h2
      go_enter Tryd.func3, Tryd.ntmps3
      have B0 : Bx (Below w.heap.size w w) := Bx.mk (Below.refl _ _)
      go_wp2_with fail
      refine (worst_nil13 w).mono ?_
      rintro e w1 ⟨rfl, hb⟩
      have B1 := Bx.mk (B0.out.trans (hb.mono B0.out.size))
      clear hb B0
      skip -- M2
      go_wp2_with fail
      refine (known13_any w1).mono ?_
      rintro e w2 ⟨rfl, hb⟩
      have B2 := Bx.mk (B1.out.trans (hb.mono B1.out.size))
      clear hb B1
      skip -- M3
      go_wp2_with fail
      refine (HWd.out w2 (HW.out.later B2.out)).mono ?_
      rintro e w3 ⟨rfl, hw⟩
      obtain rfl : w2 = w3 := hw.symm
      clear hw
      skip -- M4
      go_wp2_with fail
      refine (count_nil13 _ _).mono ?_
      rintro e w4 ⟨rfl, hw⟩
      have B4 : Bx (Below w.heap.size w w4) := Bx.mk (by rw [hw]; exact B2.out.trans ((below_a _).mono B2.out.size))
      clear hw B2
      go_wp2_with fail
      refine (of_nil13 n w4).mono ?_
      rintro e w5 ⟨rfl, hw⟩
      obtain rfl : w4 = w5 := hw.symm
      clear hw
      go_wp2_with fail
      refine (total_nil13 w4).mono ?_
      rintro e w6 ⟨rfl, hb⟩
      have B6 := Bx.mk (B4.out.trans (hb.mono B4.out.size))
      clear hb B4
      go_wp2_with fail
      refine (HAl.out w6).mono ?_
      rintro e w7 ⟨rfl, hb⟩
      have B7 := Bx.mk (B6.out.trans (hb.mono B6.out.size))
      clear hb B6
      skip -- M5
      go_wp2_with fail
      refine (join_nil13 _ w7).mono ?_
      rintro e w8 ⟨rfl, hw⟩
      obtain rfl : w7 = w8 := hw.symm
      clear hw
      go_wp2_with fail
      refine (copy_nil13 w7).mono ?_
      rintro e w8 ⟨rfl, hw⟩
      obtain rfl : w7 = w8 := hw.symm
      clear hw
      go_wp2_with fail
      refine (same_nils13 w7).mono ?_
      rintro e w8 ⟨rfl, hw⟩
      obtain rfl : w7 = w8 := hw.symm
      clear hw
      go_wp2
      go_ret
      exact ⟨rfl, B7.out⟩
  · have HWd := Bx.mk fun (W : World) (h : WordsAt W) => word_any13 n W h
    rw [if_neg (fun h => h1 (by have := (isRe_iff n).1 h; omega))] at HWd
    unfold wordV at HWd
    have d1 : decide (0 < n) = false := decide_eq_false h1
    go_enter Tryd.func3, Tryd.ntmps3
    have B0 : Bx (Below w.heap.size w w) := Bx.mk (Below.refl _ _)
    go_wp2_with fail
    refine (worst_nil13 w).mono ?_
    rintro e w1 ⟨rfl, hb⟩
    have B1 := Bx.mk (B0.out.trans (hb.mono B0.out.size))
    clear hb B0
    skip -- M2
    go_wp2_with fail
    refine (known13_any w1).mono ?_
    rintro e w2 ⟨rfl, hb⟩
    have B2 := Bx.mk (B1.out.trans (hb.mono B1.out.size))
    clear hb B1
    skip -- M3
    go_wp2_with fail
    refine (HWd.out w2 (HW.out.later B2.out)).mono ?_
    rintro e w3 ⟨rfl, hw⟩
    obtain rfl : w2 = w3 := hw.symm
    clear hw
    skip -- M4
    go_wp2_with fail
    refine (count_nil13 _ _).mono ?_
    rintro e w4 ⟨rfl, hw⟩
    have B4 : Bx (Below w.heap.size w w4) := Bx.mk (by rw [hw]; exact B2.out.trans ((below_a _).mono B2.out.size))
    clear hw B2
    go_wp2_with fail
    refine (of_nil13 n w4).mono ?_
    rintro e w5 ⟨rfl, hw⟩
    obtain rfl : w4 = w5 := hw.symm
    clear hw
    go_wp2_with fail
    refine (total_nil13 w4).mono ?_
    rintro e w6 ⟨rfl, hb⟩
    have B6 := Bx.mk (B4.out.trans (hb.mono B4.out.size))
    clear hb B4
    go_wp2_with fail
    refine (HAl.out w6).mono ?_
    rintro e w7 ⟨rfl, hb⟩
    have B7 := Bx.mk (B6.out.trans (hb.mono B6.out.size))
    clear hb B6
    skip -- M5
    go_wp2_with fail
    refine (join_nil13 _ w7).mono ?_
    rintro e w8 ⟨rfl, hw⟩
    obtain rfl : w7 = w8 := hw.symm
    clear hw
    go_wp2_with fail
    refine (copy_nil13 w7).mono ?_
    rintro e w8 ⟨rfl, hw⟩
    obtain rfl : w7 = w8 := hw.symm
    clear hw
    go_wp2_with fail
    refine (same_nils13 w7).mono ?_
    rintro e w8 ⟨rfl, hw⟩
    obtain rfl : w7 = w8 := hw.symm
    clear hw
    go_wp2
    go_ret
    exact ⟨rfl, B7.out⟩
end Go.Proofs.YtfommmkkdgdmfaaDoor
