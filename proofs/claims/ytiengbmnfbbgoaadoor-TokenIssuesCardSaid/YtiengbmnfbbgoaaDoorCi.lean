/-
  Claims: the walk of the document's Parse.
-/
import Derived.Test.YtiengbmnfbbgoaaDoorCh
namespace Go.Proofs.YtiengbmnfbbgoaaDoor
open Go Go.RowKit
/-- The claims that the document's Parse tells. -/
def dC (b : List UInt8) : Cl := if dE b = 0 then c9 b else clZ
theorem cutB (a : Option Addr) (n cap m : Nat) (hm : m ≤ n) (_ : n ≤ cap) (W : World) : (Instr.slice 22 (.slice a n cap) (some (.int .i64 (m : Int))) none none).run Tryd.prog W = .ok (.slice (if cap = m then a else a.map (·.add m)) (n - m) (cap - m)) W := by
  have he : Tryd.prog.elem 22 = 5 := by kernel_rfl
  have hs : ((sizeOf 5).run Tryd.prog W) = .ok 1 W := by kernel_rfl
  rw [run_slice_l W 22 a n cap (by rw [he]; exact Tryd.underlying22) .i64 (m : Int) (by omega) (by omega), he, hs]
  simp only [Result.andThen, sliced, Int.toNat_natCast, Nat.mul_one]
theorem Bytes.nowhere {w : World} {v : Value} {l : List UInt8} (h : Bytes w v l) : BytesN w w.heap.size v l := by
  refine ⟨h, fun h0 e => ?_⟩
  obtain ⟨a, cap, rfl, -, -, hr⟩ := h
  obtain ⟨c, o, rfl, hc⟩ := hr h0
  injection e with e
  simp only at e
  have := World.block_lt_of_cell? _ _ (hc 0 h0)
  simp only at this
  omega
/-- What is left of bytes: as a slice, and that it is cut so. -/
theorem cut_rest (l : List UInt8) (a : Option Addr) (n cap m n1 : Nat) (w : World) (h : Bytes w (.slice a n cap) l) (hm : m ≤ n) (h1 : n1 = n - m) :
    ∃ a1 c1, (∀ W, (Instr.slice 22 (.slice a n cap) (some (.int .i64 (m : Int))) none none).run Tryd.prog W = .ok (.slice a1 n1 c1) W) ∧ Bytes w (.slice a1 n1 c1) (l.drop m) := by
  subst h1
  exact ⟨_, _, fun W => cutB a n cap m hm (BytesN.cap h.nowhere).1 W, (h.nowhere.drop m hm).1⟩
/-- What stays while the document's claims are read. -/
structure PS (w : World) (D : Nat) (cs : Array Value) (W : World) : Prop where
  res : W.heap[D]? = some (.cells #[.int .i64 0, .int .i64 0, .int .i64 0, .int .i64 0] 24 (0, 0))
  arr : W.heap[D + 1]? = some (.cells cs 94 (0, 0))
  siz : W.heap[D + 2]? = some (.cells #[.int .i64 1, .int .i64 0, .int .i64 2, .int .i64 1] 94 (0, 0))
  below : Below D w W
theorem PS.lt {w : World} {D : Nat} {cs : Array Value} {W : World} (h : PS w D cs W) : D + 2 < W.heap.size := (Array.getElem?_eq_some_iff.1 h.siz).1
theorem PS.later {w : World} {D : Nat} {cs : Array Value} {W W1 : World} (h : PS w D cs W) (hb : Below W.heap.size W W1) : PS w D cs W1 :=
  have h0 := h.lt
  ⟨by rw [hb.block D (by omega)]; exact h.res, by rw [hb.block (D + 1) (by omega)]; exact h.arr, by rw [hb.block (D + 2) h0]; exact h.siz, h.below.trans (hb.mono (by omega))⟩
theorem PS.set {w : World} {D : Nat} {cs : Array Value} {W : World} (h : PS w D cs W) (i : Nat) (v : Value) : PS w D (cs.setIfInBounds i v) (W.setCell ⟨D + 1, i, none⟩ v) :=
  have hg := kb_set1 W (D + 1) i v
  have h0 := h.lt
  ⟨by rw [hg.block D (by omega) (fun e => by injection e with e; omega)]; exact h.res, by rw [heap_setCell_same _ _ _ _ _ _ h.arr], by rw [hg.block (D + 2) h0 (fun e => by injection e with e; omega)]; exact h.siz, h.below.setCell (by show D ≤ D + 1; omega) _⟩
theorem bytes_setA {D : Nat} {a b c d : Int} {W : World} {vb : Value} {l : List UInt8} (h : Bytes W vb l) (hp : W.heap[D]? = some (.cells #[.int .i64 a, .int .i64 b, .int .i64 c, .int .i64 d] 94 (0, 0))) (i : Nat) (v : Value) : Bytes (W.setCell ⟨D, i, none⟩ v) vb l :=
  (BytesN.grown (p := D) ⟨h, h.offA hp (four_off _ _ _ _)⟩ (kb_set1 _ _ _ _)).1
set_option maxRecDepth 100000 in
set_option maxHeartbeats 4000000 in
theorem dparse_any (b : List UInt8) (v : Value) (w : World) (hv : Bytes w v b) (hL : b.length ≤ 1000) :
    Calls Tryd.prog 27 #[v] w fun e w' => e = .returned (.tuple #[clV (dC b), .int .i64 (dE b)]) ∧ Below w.heap.size w w' := by
  have HV := Bx.mk hv
  have HL := Bx.mk hL
  have HS : Bx (b.length < 9 → clV (dC b) = .agg #[.int .i64 0, .int .i64 0, .int .i64 0, .int .i64 0] ∧ dE b = 4) := Bx.mk (fun h => by
    have e : dE b = 4 := by unfold dE; rw [if_pos h]
    exact ⟨by unfold dC; rw [if_neg (by rw [e]; simp)]; rfl, e⟩)
  have HG : Bx (9 ≤ b.length → okC (c9 b) = true → clV (dC b) = clV (c9 b) ∧ dE b = 0) := Bx.mk (fun h k => by
    have e : dE b = 0 := by unfold dE; rw [if_neg (by omega), if_pos k]
    exact ⟨by unfold dC; rw [if_pos e], e⟩)
  have HF : Bx (9 ≤ b.length → okC (c9 b) = false → clV (dC b) = .agg #[.int .i64 0, .int .i64 0, .int .i64 0, .int .i64 0] ∧ dE b = 3) := Bx.mk (fun h k => by
    have e : dE b = 3 := by unfold dE; rw [if_neg (by omega), if_neg (by rw [k]; simp)]
    exact ⟨by unfold dC; rw [if_neg (by rw [e]; simp)]; rfl, e⟩)
  have HC9 : Bx (c9 b = ⟨(valN (b.take 2) : Int), (valN ((b.drop 2).take 1) : Int), (valN ((b.drop 3).take 4) : Int), (valN ((b.drop 7).take 2) : Int)⟩) := Bx.mk rfl
  obtain ⟨a0, c0, rfl, -⟩ := hv
  obtain ⟨n, hn⟩ : ∃ n, b.length = n := ⟨_, rfl⟩
  rw [hn] at HV HL HS HG HF ⊢
  have HN := Bx.mk hn
  obtain ⟨V, hVV⟩ : ∃ V, clV (dC b) = V := ⟨_, rfl⟩
  obtain ⟨E, hEE⟩ : ∃ E, dE b = E := ⟨_, rfl⟩
  rw [hVV, hEE] at HS HG HF ⊢
  clear hVV hEE hn hL
  obtain ⟨D, hD⟩ : ∃ D, w.heap.size = D := ⟨_, rfl⟩
  rw [hD]
  have P0 : Bx (PS w D #[.int .i64 0, .int .i64 0, .int .i64 0, .int .i64 0] (((w.alloc (.cells #[.int .i64 0, .int .i64 0, .int .i64 0, .int .i64 0] 24)).alloc (.cells #[.int .i64 0, .int .i64 0, .int .i64 0, .int .i64 0] 94)).alloc (.cells #[.int .i64 1, .int .i64 0, .int .i64 2, .int .i64 1] 94)) ∧ Bytes (((w.alloc (.cells #[.int .i64 0, .int .i64 0, .int .i64 0, .int .i64 0] 24)).alloc (.cells #[.int .i64 0, .int .i64 0, .int .i64 0, .int .i64 0] 94)).alloc (.cells #[.int .i64 1, .int .i64 0, .int .i64 2, .int .i64 1] 94)) (.slice a0 n c0) (b.drop 0)) := Bx.mk ⟨⟨by rw [hold _ _ _ (by simp; omega), hold _ _ _ (by simp; omega)]; exact hnew _ _ _ hD.symm, by rw [hold _ _ _ (by simp; omega)]; exact hnew _ _ _ (by simp; omega), hnew _ _ _ (by simp; omega), by rw [← hD]; exact ((below_a _).alloc (by simp) _).alloc (by simp; omega) _⟩, ((HV.out.later (below_a _)).later (below_a _)).later (below_a _)⟩
  clear HV
  go_enter Tryd.func27, Tryd.ntmps27
  go_wp2
  generalize ((w.alloc (.cells #[.int .i64 0, .int .i64 0, .int .i64 0, .int .i64 0] 24)).alloc (.cells #[.int .i64 0, .int .i64 0, .int .i64 0, .int .i64 0] 94)).alloc (.cells #[.int .i64 1, .int .i64 0, .int .i64 2, .int .i64 1] 94) = w0 at *
  refine wp_loop_rounds 5 ?_
  rw [rounds_succ]
  have hs0 : w0.cell? ⟨D + 2, 0, none⟩ = some (.int .i64 1) := by rw [cell_of_row _ _ _ _ _ _ P0.out.1.siz]; rfl
  go_wp2_with fail
  by_cases hk0 : n < 2
  · refine (rget_two_end (b.drop 0) _ w0 P0.out.2 (by rw [List.length_drop]; have := HL.out; have := HN.out; omega) (by rw [List.length_drop]; have := HN.out; omega)).mono ?_
    rintro e w1 ⟨rfl, hb1⟩
    have H1 : Bx (PS w D #[.int .i64 0, .int .i64 0, .int .i64 0, .int .i64 0] (w1.alloc (.cells #[.int .i64 0, .int .i64 0, .slice none 0 0] 90))) := Bx.mk ((P0.out.1.later hb1).later (below_a _))
    have HE := Bx.mk (HS.out (by omega))
    clear hb1 P0 HS HG HF HC9
    go_wp2_with (refine wpList_store_new rfl 24 _ _ rfl D #[.int .i64 0, .int .i64 0, .int .i64 0, .int .i64 0] _ _ (by rfl) (by rfl) H1.out.res rfl (by kernel_rfl) (by simp [Value.oneCell']) ?_; intro wz hwz hrz; have hgz : Bx ((w1.alloc (.cells #[.int .i64 0, .int .i64 0, .slice none 0 0] 90)).grownBy wz (some D)) := Bx.mk (by rw [hwz]; exact kb_setCells _ _ _); have HRz := Bx.mk hrz; clear hwz hrz)
    refine bodyPost_ret (results_pair rfl _ _ _ D _ rfl (run_loadVar_row _ D _ _ _ _ _ HRz.out Tryd.underlying24 rfl (by kernel_rfl))) rfl ?_
    exact ⟨by rw [HE.out.1, HE.out.2]; rfl, H1.out.below.trans (grown_below hgz.out (Nat.le_refl _) (by have := H1.out.lt; omega))⟩
  refine (rget_two (b.drop 0) _ w0 P0.out.2 (by rw [List.length_drop]; have := HL.out; have := HN.out; omega) (by rw [List.length_drop]; have := HN.out; omega)).mono ?_
  rintro e w1 ⟨rfl, hb1⟩
  obtain ⟨z0, hz0⟩ : ∃ z : Int, (valN ((b.drop 0).take 2) : Int) = z := ⟨_, rfl⟩
  rw [hz0]
  have Z0 := Bx.mk hz0
  have H1 : Bx (PS w D #[.int .i64 0, .int .i64 0, .int .i64 0, .int .i64 0] (w1.alloc (.cells #[.int .i64 1, .int .i64 z0, .slice none 0 0] 90)) ∧ Bytes (w1.alloc (.cells #[.int .i64 1, .int .i64 z0, .slice none 0 0] 90)) (.slice a0 (n) c0) (b.drop 0)) := Bx.mk ⟨(P0.out.1.later hb1).later (below_a _), (P0.out.2.later hb1).later (below_a _)⟩
  obtain ⟨n1, hn1⟩ : ∃ x : Nat, x = n - 2 := ⟨_, rfl⟩
  obtain ⟨a1, c1, sc0, hby0⟩ := cut_rest (b.drop 0) a0 (n) c0 2 n1 _ H1.out.2 (by omega) hn1
  have HN1 := Bx.mk hn1
  rw [List.drop_drop] at hby0
  have s0 : ∀ W, (Instr.slice 22 (.slice a0 n c0) (some (.int .i64 2)) none none).run Tryd.prog W = .ok (.slice a1 n1 c1) W := sc0
  have HB1 := Bx.mk hby0
  clear hb1 P0 hz0 hby0 hs0 sc0 hn1
  go_upto_region 9 with (fail)
  have hfN : (w1.alloc (.cells #[.int .i64 1, .int .i64 z0, .slice none 0 0] 90)).cell? ⟨w1.heap.size, 1, none⟩ = some (.int .i64 z0) := by rw [cell_of_row _ _ _ _ _ _ (hnew _ _ _ rfl)]; rfl
  have hA : (w1.alloc (.cells #[.int .i64 1, .int .i64 z0, .slice none 0 0] 90)).cell? ⟨D + 1, 0, none⟩ = some (.int .i64 0) := by rw [cell_of_row _ _ _ _ _ _ H1.out.1.arr]; rfl
  have hfz : (w1.alloc (.cells #[.int .i64 1, .int .i64 z0, .slice none 0 0] 90)).frozen? ⟨D + 1, 0, none⟩ = false := frozen_of_row _ _ _ _ _ H1.out.1.arr
  generalize w1.alloc (.cells #[.int .i64 1, .int .i64 z0, .slice none 0 0] 90) = w2 at *
  generalize w1.heap.size = F0 at *
  go_region
  have P1 : Bx (PS w D #[.int .i64 z0, .int .i64 0, .int .i64 0, .int .i64 0] (w2.setCell ⟨D + 1, 0, none⟩ (.int .i64 z0)).drew ∧ Bytes (w2.setCell ⟨D + 1, 0, none⟩ (.int .i64 z0)).drew (.slice a1 n1 c1) (b.drop 2)) := Bx.mk ⟨(H1.out.1.set 0 (.int .i64 z0)).later (Below.refl _ _).drew, (bytes_setA HB1.out H1.out.1.arr 0 _).later (Below.refl _ _).drew⟩
  clear H1 HB1 hA hfz hfN s0
  generalize (w2.setCell ⟨D + 1, 0, none⟩ (.int .i64 z0)).drew = w10 at *
  go_wp2
  rw [rounds_succ]
  have hs1 : w10.cell? ⟨D + 2, 1, none⟩ = some (.int .i64 0) := by rw [cell_of_row _ _ _ _ _ _ P1.out.1.siz]; rfl
  go_wp2_with fail
  by_cases hk1 : n < 3
  · refine (rget_one_end (b.drop 2) _ w10 P1.out.2 (by rw [List.length_drop]; have := HL.out; have := HN.out; omega) (by rw [List.length_drop]; have := HN.out; omega)).mono ?_
    rintro e w1 ⟨rfl, hb1⟩
    have H1 : Bx (PS w D #[.int .i64 z0, .int .i64 0, .int .i64 0, .int .i64 0] (w1.alloc (.cells #[.int .i64 0, .int .i64 0, .slice none 0 0] 90))) := Bx.mk ((P1.out.1.later hb1).later (below_a _))
    have HE := Bx.mk (HS.out (by omega))
    clear hb1 P1 HS HG HF HC9
    go_wp2_with (refine wpList_store_new rfl 24 _ _ rfl D #[.int .i64 0, .int .i64 0, .int .i64 0, .int .i64 0] _ _ (by rfl) (by rfl) H1.out.res rfl (by kernel_rfl) (by simp [Value.oneCell']) ?_; intro wz hwz hrz; have hgz : Bx ((w1.alloc (.cells #[.int .i64 0, .int .i64 0, .slice none 0 0] 90)).grownBy wz (some D)) := Bx.mk (by rw [hwz]; exact kb_setCells _ _ _); have HRz := Bx.mk hrz; clear hwz hrz)
    refine bodyPost_ret (results_pair rfl _ _ _ D _ rfl (run_loadVar_row _ D _ _ _ _ _ HRz.out Tryd.underlying24 rfl (by kernel_rfl))) rfl ?_
    exact ⟨by rw [HE.out.1, HE.out.2]; rfl, H1.out.below.trans (grown_below hgz.out (Nat.le_refl _) (by have := H1.out.lt; omega))⟩
  refine (rget_one (b.drop 2) _ w10 P1.out.2 (by rw [List.length_drop]; have := HL.out; have := HN.out; omega) (by rw [List.length_drop]; have := HN.out; omega)).mono ?_
  rintro e w1 ⟨rfl, hb1⟩
  obtain ⟨z1, hz1⟩ : ∃ z : Int, (valN ((b.drop 2).take 1) : Int) = z := ⟨_, rfl⟩
  rw [hz1]
  have Z1 := Bx.mk hz1
  have H1 : Bx (PS w D #[.int .i64 z0, .int .i64 0, .int .i64 0, .int .i64 0] (w1.alloc (.cells #[.int .i64 0, .int .i64 z1, .slice none 0 0] 90)) ∧ Bytes (w1.alloc (.cells #[.int .i64 0, .int .i64 z1, .slice none 0 0] 90)) (.slice a1 (n1) c1) (b.drop 2)) := Bx.mk ⟨(P1.out.1.later hb1).later (below_a _), (P1.out.2.later hb1).later (below_a _)⟩
  obtain ⟨n2, hn2⟩ : ∃ x : Nat, x = n1 - 1 := ⟨_, rfl⟩
  obtain ⟨a2, c2, sc1, hby1⟩ := cut_rest (b.drop 2) a1 (n1) c1 1 n2 _ H1.out.2 (by have := HN1.out; omega) hn2
  have HN2 := Bx.mk hn2
  rw [List.drop_drop] at hby1
  have s1 : ∀ W, (Instr.slice 22 (.slice a1 n1 c1) (some (.int .i64 1)) none none).run Tryd.prog W = .ok (.slice a2 n2 c2) W := sc1
  have HB1 := Bx.mk hby1
  clear hb1 P1 hz1 hby1 hs1 sc1 hn2
  go_upto_region 9 with (fail)
  have hfN : (w1.alloc (.cells #[.int .i64 0, .int .i64 z1, .slice none 0 0] 90)).cell? ⟨w1.heap.size, 1, none⟩ = some (.int .i64 z1) := by rw [cell_of_row _ _ _ _ _ _ (hnew _ _ _ rfl)]; rfl
  have hA : (w1.alloc (.cells #[.int .i64 0, .int .i64 z1, .slice none 0 0] 90)).cell? ⟨D + 1, 1, none⟩ = some (.int .i64 0) := by rw [cell_of_row _ _ _ _ _ _ H1.out.1.arr]; rfl
  have hfz : (w1.alloc (.cells #[.int .i64 0, .int .i64 z1, .slice none 0 0] 90)).frozen? ⟨D + 1, 1, none⟩ = false := frozen_of_row _ _ _ _ _ H1.out.1.arr
  generalize w1.alloc (.cells #[.int .i64 0, .int .i64 z1, .slice none 0 0] 90) = w2 at *
  generalize w1.heap.size = F1 at *
  go_region
  have P2 : Bx (PS w D #[.int .i64 z0, .int .i64 z1, .int .i64 0, .int .i64 0] (w2.setCell ⟨D + 1, 1, none⟩ (.int .i64 z1)).drew ∧ Bytes (w2.setCell ⟨D + 1, 1, none⟩ (.int .i64 z1)).drew (.slice a2 n2 c2) (b.drop 3)) := Bx.mk ⟨(H1.out.1.set 1 (.int .i64 z1)).later (Below.refl _ _).drew, (bytes_setA HB1.out H1.out.1.arr 1 _).later (Below.refl _ _).drew⟩
  clear H1 HB1 hA hfz hfN s1
  generalize (w2.setCell ⟨D + 1, 1, none⟩ (.int .i64 z1)).drew = w20 at *
  go_wp2
  rw [rounds_succ]
  have hs2 : w20.cell? ⟨D + 2, 2, none⟩ = some (.int .i64 2) := by rw [cell_of_row _ _ _ _ _ _ P2.out.1.siz]; rfl
  go_wp2_with fail
  by_cases hk2 : n < 7
  · refine (rget_four_end (b.drop 3) _ w20 P2.out.2 (by rw [List.length_drop]; have := HL.out; have := HN.out; omega) (by rw [List.length_drop]; have := HN.out; omega)).mono ?_
    rintro e w1 ⟨rfl, hb1⟩
    have H1 : Bx (PS w D #[.int .i64 z0, .int .i64 z1, .int .i64 0, .int .i64 0] (w1.alloc (.cells #[.int .i64 0, .int .i64 0, .slice none 0 0] 90))) := Bx.mk ((P2.out.1.later hb1).later (below_a _))
    have HE := Bx.mk (HS.out (by omega))
    clear hb1 P2 HS HG HF HC9
    go_wp2_with (refine wpList_store_new rfl 24 _ _ rfl D #[.int .i64 0, .int .i64 0, .int .i64 0, .int .i64 0] _ _ (by rfl) (by rfl) H1.out.res rfl (by kernel_rfl) (by simp [Value.oneCell']) ?_; intro wz hwz hrz; have hgz : Bx ((w1.alloc (.cells #[.int .i64 0, .int .i64 0, .slice none 0 0] 90)).grownBy wz (some D)) := Bx.mk (by rw [hwz]; exact kb_setCells _ _ _); have HRz := Bx.mk hrz; clear hwz hrz)
    refine bodyPost_ret (results_pair rfl _ _ _ D _ rfl (run_loadVar_row _ D _ _ _ _ _ HRz.out Tryd.underlying24 rfl (by kernel_rfl))) rfl ?_
    exact ⟨by rw [HE.out.1, HE.out.2]; rfl, H1.out.below.trans (grown_below hgz.out (Nat.le_refl _) (by have := H1.out.lt; omega))⟩
  refine (rget_four (b.drop 3) _ w20 P2.out.2 (by rw [List.length_drop]; have := HL.out; have := HN.out; omega) (by rw [List.length_drop]; have := HN.out; omega)).mono ?_
  rintro e w1 ⟨rfl, hb1⟩
  obtain ⟨z2, hz2⟩ : ∃ z : Int, (valN ((b.drop 3).take 4) : Int) = z := ⟨_, rfl⟩
  rw [hz2]
  have Z2 := Bx.mk hz2
  have H1 : Bx (PS w D #[.int .i64 z0, .int .i64 z1, .int .i64 0, .int .i64 0] (w1.alloc (.cells #[.int .i64 2, .int .i64 z2, .slice none 0 0] 90)) ∧ Bytes (w1.alloc (.cells #[.int .i64 2, .int .i64 z2, .slice none 0 0] 90)) (.slice a2 (n2) c2) (b.drop 3)) := Bx.mk ⟨(P2.out.1.later hb1).later (below_a _), (P2.out.2.later hb1).later (below_a _)⟩
  obtain ⟨n3, hn3⟩ : ∃ x : Nat, x = n2 - 4 := ⟨_, rfl⟩
  obtain ⟨a3, c3, sc2, hby2⟩ := cut_rest (b.drop 3) a2 (n2) c2 4 n3 _ H1.out.2 (by have := HN1.out; have := HN2.out; omega) hn3
  have HN3 := Bx.mk hn3
  rw [List.drop_drop] at hby2
  have s2 : ∀ W, (Instr.slice 22 (.slice a2 n2 c2) (some (.int .i64 4)) none none).run Tryd.prog W = .ok (.slice a3 n3 c3) W := sc2
  have HB1 := Bx.mk hby2
  clear hb1 P2 hz2 hby2 hs2 sc2 hn3
  go_upto_region 9 with (fail)
  have hfN : (w1.alloc (.cells #[.int .i64 2, .int .i64 z2, .slice none 0 0] 90)).cell? ⟨w1.heap.size, 1, none⟩ = some (.int .i64 z2) := by rw [cell_of_row _ _ _ _ _ _ (hnew _ _ _ rfl)]; rfl
  have hA : (w1.alloc (.cells #[.int .i64 2, .int .i64 z2, .slice none 0 0] 90)).cell? ⟨D + 1, 2, none⟩ = some (.int .i64 0) := by rw [cell_of_row _ _ _ _ _ _ H1.out.1.arr]; rfl
  have hfz : (w1.alloc (.cells #[.int .i64 2, .int .i64 z2, .slice none 0 0] 90)).frozen? ⟨D + 1, 2, none⟩ = false := frozen_of_row _ _ _ _ _ H1.out.1.arr
  generalize w1.alloc (.cells #[.int .i64 2, .int .i64 z2, .slice none 0 0] 90) = w2 at *
  generalize w1.heap.size = F2 at *
  go_region
  have P3 : Bx (PS w D #[.int .i64 z0, .int .i64 z1, .int .i64 z2, .int .i64 0] (w2.setCell ⟨D + 1, 2, none⟩ (.int .i64 z2)).drew ∧ Bytes (w2.setCell ⟨D + 1, 2, none⟩ (.int .i64 z2)).drew (.slice a3 n3 c3) (b.drop 7)) := Bx.mk ⟨(H1.out.1.set 2 (.int .i64 z2)).later (Below.refl _ _).drew, (bytes_setA HB1.out H1.out.1.arr 2 _).later (Below.refl _ _).drew⟩
  clear H1 HB1 hA hfz hfN s2
  generalize (w2.setCell ⟨D + 1, 2, none⟩ (.int .i64 z2)).drew = w30 at *
  go_wp2
  rw [rounds_succ]
  have hs3 : w30.cell? ⟨D + 2, 3, none⟩ = some (.int .i64 1) := by rw [cell_of_row _ _ _ _ _ _ P3.out.1.siz]; rfl
  go_wp2_with fail
  by_cases hk3 : n < 9
  · refine (rget_two_end (b.drop 7) _ w30 P3.out.2 (by rw [List.length_drop]; have := HL.out; have := HN.out; omega) (by rw [List.length_drop]; have := HN.out; omega)).mono ?_
    rintro e w1 ⟨rfl, hb1⟩
    have H1 : Bx (PS w D #[.int .i64 z0, .int .i64 z1, .int .i64 z2, .int .i64 0] (w1.alloc (.cells #[.int .i64 0, .int .i64 0, .slice none 0 0] 90))) := Bx.mk ((P3.out.1.later hb1).later (below_a _))
    have HE := Bx.mk (HS.out (by omega))
    clear hb1 P3 HS HG HF HC9
    go_wp2_with (refine wpList_store_new rfl 24 _ _ rfl D #[.int .i64 0, .int .i64 0, .int .i64 0, .int .i64 0] _ _ (by rfl) (by rfl) H1.out.res rfl (by kernel_rfl) (by simp [Value.oneCell']) ?_; intro wz hwz hrz; have hgz : Bx ((w1.alloc (.cells #[.int .i64 0, .int .i64 0, .slice none 0 0] 90)).grownBy wz (some D)) := Bx.mk (by rw [hwz]; exact kb_setCells _ _ _); have HRz := Bx.mk hrz; clear hwz hrz)
    refine bodyPost_ret (results_pair rfl _ _ _ D _ rfl (run_loadVar_row _ D _ _ _ _ _ HRz.out Tryd.underlying24 rfl (by kernel_rfl))) rfl ?_
    exact ⟨by rw [HE.out.1, HE.out.2]; rfl, H1.out.below.trans (grown_below hgz.out (Nat.le_refl _) (by have := H1.out.lt; omega))⟩
  refine (rget_two (b.drop 7) _ w30 P3.out.2 (by rw [List.length_drop]; have := HL.out; have := HN.out; omega) (by rw [List.length_drop]; have := HN.out; omega)).mono ?_
  rintro e w1 ⟨rfl, hb1⟩
  obtain ⟨z3, hz3⟩ : ∃ z : Int, (valN ((b.drop 7).take 2) : Int) = z := ⟨_, rfl⟩
  rw [hz3]
  have Z3 := Bx.mk hz3
  have H1 : Bx (PS w D #[.int .i64 z0, .int .i64 z1, .int .i64 z2, .int .i64 0] (w1.alloc (.cells #[.int .i64 1, .int .i64 z3, .slice none 0 0] 90)) ∧ Bytes (w1.alloc (.cells #[.int .i64 1, .int .i64 z3, .slice none 0 0] 90)) (.slice a3 (n3) c3) (b.drop 7)) := Bx.mk ⟨(P3.out.1.later hb1).later (below_a _), (P3.out.2.later hb1).later (below_a _)⟩
  obtain ⟨n4, hn4⟩ : ∃ x : Nat, x = n3 - 2 := ⟨_, rfl⟩
  obtain ⟨a4, c4, sc3, hby3⟩ := cut_rest (b.drop 7) a3 (n3) c3 2 n4 _ H1.out.2 (by have := HN1.out; have := HN2.out; have := HN3.out; omega) hn4
  have HN4 := Bx.mk hn4
  rw [List.drop_drop] at hby3
  have s3 : ∀ W, (Instr.slice 22 (.slice a3 n3 c3) (some (.int .i64 2)) none none).run Tryd.prog W = .ok (.slice a4 n4 c4) W := sc3
  have HB1 := Bx.mk hby3
  clear hb1 P3 hz3 hby3 hs3 sc3 hn4
  go_upto_region 9 with (fail)
  have hfN : (w1.alloc (.cells #[.int .i64 1, .int .i64 z3, .slice none 0 0] 90)).cell? ⟨w1.heap.size, 1, none⟩ = some (.int .i64 z3) := by rw [cell_of_row _ _ _ _ _ _ (hnew _ _ _ rfl)]; rfl
  have hA : (w1.alloc (.cells #[.int .i64 1, .int .i64 z3, .slice none 0 0] 90)).cell? ⟨D + 1, 3, none⟩ = some (.int .i64 0) := by rw [cell_of_row _ _ _ _ _ _ H1.out.1.arr]; rfl
  have hfz : (w1.alloc (.cells #[.int .i64 1, .int .i64 z3, .slice none 0 0] 90)).frozen? ⟨D + 1, 3, none⟩ = false := frozen_of_row _ _ _ _ _ H1.out.1.arr
  generalize w1.alloc (.cells #[.int .i64 1, .int .i64 z3, .slice none 0 0] 90) = w2 at *
  generalize w1.heap.size = F3 at *
  go_region
  have P4 : Bx (PS w D #[.int .i64 z0, .int .i64 z1, .int .i64 z2, .int .i64 z3] (w2.setCell ⟨D + 1, 3, none⟩ (.int .i64 z3)).drew ∧ Bytes (w2.setCell ⟨D + 1, 3, none⟩ (.int .i64 z3)).drew (.slice a4 n4 c4) (b.drop 9)) := Bx.mk ⟨(H1.out.1.set 3 (.int .i64 z3)).later (Below.refl _ _).drew, (bytes_setA HB1.out H1.out.1.arr 3 _).later (Below.refl _ _).drew⟩
  clear H1 HB1 hA hfz hfN s3
  generalize (w2.setCell ⟨D + 1, 3, none⟩ (.int .i64 z3)).drew = w40 at *
  go_wp2
  rw [rounds_succ]
  have hq0 : w40.cell? ⟨D + 1, 0, none⟩ = some (.int .i64 z0) := by rw [cell_of_row _ _ _ _ _ _ P4.out.1.arr]; rfl
  have hq1 : w40.cell? ⟨D + 1, 1, none⟩ = some (.int .i64 z1) := by rw [cell_of_row _ _ _ _ _ _ P4.out.1.arr]; rfl
  have hq2 : w40.cell? ⟨D + 1, 2, none⟩ = some (.int .i64 z2) := by rw [cell_of_row _ _ _ _ _ _ P4.out.1.arr]; rfl
  have hq3 : w40.cell? ⟨D + 1, 3, none⟩ = some (.int .i64 z3) := by rw [cell_of_row _ _ _ _ _ _ P4.out.1.arr]; rfl
  have H5 : Bx (PS w D #[.int .i64 z0, .int .i64 z1, .int .i64 z2, .int .i64 z3] (w40.alloc (.cells #[.int .i64 z0, .int .i64 z1, .int .i64 z2, .int .i64 z3] 24)) ∧ (w40.alloc (.cells #[.int .i64 z0, .int .i64 z1, .int .i64 z2, .int .i64 z3] 24)).heap[w40.heap.size]? = some (.cells #[.int .i64 z0, .int .i64 z1, .int .i64 z2, .int .i64 z3] 24 (0, 0))) := Bx.mk ⟨P4.out.1.later (below_a _), hnew _ _ _ rfl⟩
  have HC : Bx (c9 b = ⟨z0, z1, z2, z3⟩) := Bx.mk (by rw [HC9.out, ← Z0.out, ← Z1.out, ← Z2.out, ← Z3.out]; rfl)
  have HRt := Bx.mk (fun W => cright_any ⟨z0, z1, z2, z3⟩ W)
  rw [HC.out] at HG HF
  unfold clV at HRt HG
  simp only at HRt HG
  clear P4 HC9 Z0 Z1 Z2 Z3 HS
  go_wp2_with fail
  generalize w40.alloc (.cells #[.int .i64 z0, .int .i64 z1, .int .i64 z2, .int .i64 z3] 24) = w5 at *
  generalize w40.heap.size = G at *
  clear hq0 hq1 hq2 hq3
  refine (HRt.out w5).mono ?_
  rintro e w6 ⟨rfl, hb6⟩
  have H6 : Bx (PS w D #[.int .i64 z0, .int .i64 z1, .int .i64 z2, .int .i64 z3] w6) := Bx.mk (H5.out.1.later hb6)
  have hrow : w6.heap[G]? = some (.cells #[.int .i64 z0, .int .i64 z1, .int .i64 z2, .int .i64 z3] 24 (0, 0)) := by rw [hb6.block G (Array.getElem?_eq_some_iff.1 H5.out.2).1]; exact H5.out.2
  have hq0 : w6.cell? ⟨G, 0, none⟩ = some (.int .i64 z0) := by rw [cell_of_row _ _ _ _ _ _ hrow]; rfl
  have hq1 : w6.cell? ⟨G, 1, none⟩ = some (.int .i64 z1) := by rw [cell_of_row _ _ _ _ _ _ hrow]; rfl
  have hq2 : w6.cell? ⟨G, 2, none⟩ = some (.int .i64 z2) := by rw [cell_of_row _ _ _ _ _ _ hrow]; rfl
  have hq3 : w6.cell? ⟨G, 3, none⟩ = some (.int .i64 z3) := by rw [cell_of_row _ _ _ _ _ _ hrow]; rfl
  clear hb6 H5 HRt hrow
  by_cases ho : okC ⟨z0, z1, z2, z3⟩ = true
  · have HE := Bx.mk (HG.out (by omega) ho)
    rw [ho]
    clear HG HF ho HC
    go_wp2_with (refine wpList_store_new rfl 24 _ _ rfl D #[.int .i64 z0, .int .i64 z1, .int .i64 z2, .int .i64 z3] _ _ (by rfl) (by rfl) H6.out.res rfl (by kernel_rfl) (by simp [Value.oneCell']) ?_; intro wz hwz hrz; have hgz : Bx ((w6).grownBy wz (some D)) := Bx.mk (by rw [hwz]; exact kb_setCells _ _ _); have HRz := Bx.mk hrz; clear hwz hrz)
    refine bodyPost_ret (results_pair rfl _ _ _ D _ rfl (run_loadVar_row _ D _ _ _ _ _ HRz.out Tryd.underlying24 rfl (by kernel_rfl))) rfl ?_
    exact ⟨by rw [HE.out.1, HE.out.2]; rfl, H6.out.below.trans (grown_below hgz.out (Nat.le_refl _) (by have := H6.out.lt; omega))⟩
  · have hof : okC ⟨z0, z1, z2, z3⟩ = false := by simpa using ho
    have HE := Bx.mk (HF.out (by omega) hof)
    rw [hof]
    clear HG HF ho hof HC
    go_wp2_with (refine wpList_store_new rfl 24 _ _ rfl D #[.int .i64 0, .int .i64 0, .int .i64 0, .int .i64 0] _ _ (by rfl) (by rfl) H6.out.res rfl (by kernel_rfl) (by simp [Value.oneCell']) ?_; intro wz hwz hrz; have hgz : Bx ((w6).grownBy wz (some D)) := Bx.mk (by rw [hwz]; exact kb_setCells _ _ _); have HRz := Bx.mk hrz; clear hwz hrz)
    refine bodyPost_ret (results_pair rfl _ _ _ D _ rfl (run_loadVar_row _ D _ _ _ _ _ HRz.out Tryd.underlying24 rfl (by kernel_rfl))) rfl ?_
    exact ⟨by rw [HE.out.1, HE.out.2]; rfl, H6.out.below.trans (grown_below hgz.out (Nat.le_refl _) (by have := H6.out.lt; omega))⟩
end Go.Proofs.YtiengbmnfbbgoaaDoor
