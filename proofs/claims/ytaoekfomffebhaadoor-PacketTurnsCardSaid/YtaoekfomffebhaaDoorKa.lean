/-
  The walks of the tags of the document, of derived keys, and of the derived keys of the document.
-/
import Derived.Test.YtaoekfomffebhaaDoorAf
import Derived.OwnWalk
import Derived.Test.YtaoekfomffebhaaDoorP10
import Derived.Test.YtaoekfomffebhaaDoorP8
import Derived.Test.YtaoekfomffebhaaDoorAb
namespace Go.Proofs.YtaoekfomffebhaaDoor
open Go Go.RowKit
/-- The places, k of which are filled and turned. -/
def fo (b : UInt8) (l : List UInt8) (k : Nat) : List UInt8 := (turn b l).take k ++ List.replicate (64 - k) 0
theorem fo_length (b : UInt8) (l : List UInt8) (k : Nat) (hl : l.length = 64) (hk : k ≤ 64) : (fo b l k).length = 64 := by
  unfold fo
  rw [List.length_append, List.length_take, List.length_replicate, turn_length, hl]
  omega
theorem fo_get (b : UInt8) (l : List UInt8) (k : Nat) (hl : l.length = 64) (hk : k < 64) : (fo b l k).getD k 0 = 0 := by
  unfold fo
  have h : ((turn b l).take k).length = k := by rw [List.length_take, turn_length]; omega
  rw [List.getD_eq_getElem?_getD, List.getElem?_append_right (by omega), h, Nat.sub_self, List.getElem?_replicate, if_pos (by omega)]
  rfl
theorem fo_succ (b : UInt8) (l : List UInt8) (k : Nat) (hl : l.length = 64) (hk : k < 64) : (fo b l k).set k (l.getD k 0 ^^^ b) = fo b l (k + 1) := by
  unfold fo
  have h : ((turn b l).take k).length = k := by rw [List.length_take, turn_length]; omega
  have hk' : k < (turn b l).length := by rw [turn_length]; omega
  rw [show 64 - k = (64 - (k + 1)) + 1 by omega, List.replicate_succ, List.set_append_right _ _ (by omega), h, Nat.sub_self, List.set_cons_zero, List.take_succ_eq_append_getElem hk', List.append_assoc]
  congr 1
  show _ = (turn b l)[k] :: List.replicate (64 - (k + 1)) 0
  congr 1
  have h2 : k < l.length := by omega
  simp [turn, h2]
theorem fo_all (b : UInt8) (l : List UInt8) (hl : l.length = 64) : fo b l 64 = turn b l := by
  unfold fo
  rw [List.take_of_length_le (by rw [turn_length]; omega)]
  simp
theorem fillK_get (k : List UInt8) (i : Nat) (_hk : k.length ≤ 64) (_hi : i < 64) : (fillK k).getD i 0 = if i < k.length then k.getD i 0 else 0 := by
  unfold fillK
  by_cases h : i < k.length
  · rw [if_pos h, List.getD_eq_getElem?_getD, List.getElem?_append_left h, ← List.getD_eq_getElem?_getD]
  · rw [if_neg h, List.getD_eq_getElem?_getD, List.getElem?_append_right (by omega), List.getElem?_replicate]
    split <;> rfl
theorem uint8_xor_zero (b : UInt8) : (0 : UInt8) ^^^ b = b := by simp
/-- The document's table in its own block. -/
structure RT (w : World) (tbl : List Value) (W : World) : Prop where
  below : Below w.heap.size w W
  size : w.heap.size < W.heap.size
  row : W.heap[w.heap.size]? = some (.cells tbl.toArray 45 (0, 0))
theorem RT.later {w W W1 : World} {tbl : List Value} (h : RT w tbl W) (hb : Below W.heap.size W W1) : RT w tbl W1 :=
  ⟨h.below.trans (hb.mono h.below.size), Nat.lt_of_lt_of_le h.size hb.size, by rw [hb.block _ h.size]; exact h.row⟩
set_option maxRecDepth 100000 in
theorem open43 {a : Act} (h : Fr 43 a) : ∃ x : Nat → Value, a = ⟨List.toArray (x 0 :: x 1 :: x 2 :: x 3 :: x 4 :: x 5 :: x 6 :: x 7 :: x 8 :: x 9 :: x 10 :: x 11 :: x 12 :: x 13 :: x 14 :: x 15 :: x 16 :: x 17 :: x 18 :: x 19 :: x 20 :: x 21 :: x 22 :: x 23 :: x 24 :: x 25 :: x 26 :: x 27 :: x 28 :: x 29 :: x 30 :: x 31 :: x 32 :: x 33 :: x 34 :: x 35 :: x 36 :: x 37 :: x 38 :: x 39 :: x 40 :: x 41 :: x 42 :: []), []⟩ ∧ ∀ i, a.eval (.tmp i) = x i := ⟨fun i => a.tmps.getD i undef, h.form, fun _ => rfl⟩
/-- At the head of each byte. -/
structure IFl (va : Value) (b : UInt8) (M : Nat) (W0 : World) (ks : List UInt8) (k : Nat) (a : Act) (wr : World) : Prop where
  fr : Fr 43 a
  s1 : a.eval (.tmp 1) = va
  s2 : a.eval (.tmp 2) = .int .u8 (ub b)
  s8 : a.eval (.tmp 8) = .slice (some ⟨M, 0, none⟩) 64 64
  s9 : a.eval (.tmp 9) = .int .i64 (k : Int)
  row : wr.heap[M]? = some (.cells (u8s (fo b (fillK ks) k)) 5 (0, 0))
  kept : W0.grownBy wr (some M)
set_option maxRecDepth 100000 in
set_option maxHeartbeats 1000000 in
theorem roundFl (ad : Option Addr) (n cap : Nat) (b : UInt8) (M : Nat) (W0 : World) (ks : List UInt8) (Q : Exit → Act → World → Prop) (hb : BytesAt W0 M (.slice ad n cap) ks) (hn : ks.length = n) (hn64 : n ≤ 64)
    (k : Nat) (hk : k < 64) (a : Act) (wr : World) (h : IFl (.slice ad n cap) b M W0 ks k a wr) :
    Code.wp Tryd.prog (loopAt Tryd.f52.body 0) (Exit.then (fun a' w' => IFl (.slice ad n cap) b M W0 ks (k + 1) a' w') Q) a wr := by
  have hfl := fillK_length ks (by omega)
  have c1 : wr.cell? ⟨M, k, none⟩ = some (.int .u8 (ub ((fo b (fillK ks) k).getD k 0))) := by rw [cell_of_row _ _ _ _ _ _ h.row]; exact u8s_get _ _ (by rw [fo_length _ _ _ hfl (by omega)]; exact hk)
  rw [fo_get b _ k hfl hk] at c1
  have f1 := frozen_of_row wr M k _ _ h.row
  have HS : Bx (∀ y, ((wr.setCell ⟨M, k, none⟩ (.int .u8 (ub y))).setCell ⟨M, k, none⟩ (.int .u8 (ub ((fillK ks).getD k 0 ^^^ b)))).heap[M]? = some (.cells (u8s (fo b (fillK ks) (k + 1))) 5 (0, 0))) := Bx.mk (fun y => by
    rw [heap_setCell_same _ _ _ _ _ _ (heap_setCell_same wr _ _ _ _ _ h.row), u8s_set, u8s_set, List.set_set, fo_succ b _ k hfl hk])
  have HS0 : Bx ((wr.setCell ⟨M, k, none⟩ (.int .u8 (ub ((fillK ks).getD k 0 ^^^ b)))).heap[M]? = some (.cells (u8s (fo b (fillK ks) (k + 1))) 5 (0, 0))) := Bx.mk (by
    rw [heap_setCell_same wr _ _ _ _ _ h.row, u8s_set, fo_succ b _ k hfl hk])
  have hget := fillK_get ks k (by omega) hk
  have hrow := h.row
  have hfo := fo_length b (fillK ks) k hfl (by omega)
  have HK := Bx.mk h.kept
  have hk1 : (k : Int) < 64 := by omega
  have hb2 := hb.later h.kept
  obtain ⟨x, rfl, hx⟩ := open43 h.fr
  have e1 := (hx 1).symm.trans h.s1
  have e2 := (hx 2).symm.trans h.s2
  have e8 := (hx 8).symm.trans h.s8
  have e9 := (hx 9).symm.trans h.s9
  clear h hx
  rw [e1, e2, e8, e9]
  clear e1 e2 e8 e9
  by_cases hkn : k < n
  · rw [if_pos (by omega)] at hget
    rw [hget] at HS
    obtain ⟨a', cap', hv', -, hr'⟩ := hb2
    injection hv' with q1 q2 q3
    obtain ⟨g, o, hne, ha, hcell⟩ := hr' (by omega)
    subst q1
    subst ha
    have c2 := hcell k (by omega)
    generalize ks.getD k 0 = y at *
    clear HS0 hget hcell hr' q2 q3 hb hfl
    have t1 : (k : Int) < (n : Int) := by omega
    have c3 : (wr.setCell ⟨M, k, none⟩ (.int .u8 (ub y))).cell? ⟨M, k, none⟩ = some (.int .u8 (ub y)) := by
      rw [cell_of_row _ _ _ _ _ _ (heap_setCell_same wr _ _ _ _ _ hrow)]
      exact by rw [u8s_set, u8s_get _ _ (by rw [List.length_set, hfo]; exact hk)]; simp [hfo, hk]
    clear hrow hfo
    have f3 : (wr.setCell ⟨M, k, none⟩ (.int .u8 (ub y))).frozen? ⟨M, k, none⟩ = false := by simpa using f1
    conv => arg 2; whnf
    go_wp2
    exact ⟨⟨rfl, rfl⟩, rfl, rfl, rfl, by go_num, by first | (rw [ub_xor]; exact HS.out y) | (rw [ub_xor, ub_mod]; exact HS.out y), kb_trans (kb_trans HK.out (kb_setCell _ _ _)) (kb_setCell _ _ _)⟩
  · rw [if_neg (by omega)] at hget
    rw [hget] at HS0
    clear HS hget hb2 hb hfl hrow hfo
    have t1 : ¬ (k : Int) < (n : Int) := by omega
    have z0 : ub 0 = 0 := rfl
    rw [z0] at c1
    have HX : Bx (bits BinOp.xor IntKind.u8 0 (ub b) = ub (0 ^^^ b)) := Bx.mk (by rw [← ub_xor]; rfl)
    conv => arg 2; whnf
    go_wp2
    exact ⟨⟨rfl, rfl⟩, rfl, rfl, rfl, by go_num, by first | (rw [HX.out]; exact HS0.out) | (rw [HX.out, ub_mod]; exact HS0.out) | (rw [uint8_xor_zero] at HS0; exact HS0.out), kb_trans HK.out (kb_setCell _ _ _)⟩
set_option maxRecDepth 100000 in
theorem lastFl (va : Value) (b : UInt8) (M : Nat) (W0 : World) (ks : List UInt8) (Q : Exit → Act → World → Prop) (N : Act → World → Prop)
    (hq : ∀ a' w', IFl va b M W0 ks 64 a' w' → Q (.exit 0) a' w') (a : Act) (wr : World) (h : IFl va b M W0 ks 64 a wr) : Code.wp Tryd.prog (loopAt Tryd.f52.body 0) (Exit.then N Q) a wr := by
  have HR := Bx.mk h.row
  have HK := Bx.mk h.kept
  have HQ := Bx.mk hq
  clear hq
  obtain ⟨x, rfl, hx⟩ := open43 h.fr
  have e1 := (hx 1).symm.trans h.s1
  have e2 := (hx 2).symm.trans h.s2
  have e8 := (hx 8).symm.trans h.s8
  have e9 : x 9 = .int .i64 64 := (hx 9).symm.trans h.s9
  clear h hx
  rw [e1, e2, e8, e9]
  clear e1 e2 e8 e9
  conv => arg 2; whnf
  go_wp2
  exact HQ.out _ _ ⟨⟨rfl, rfl⟩, rfl, rfl, rfl, rfl, HR.out, HK.out⟩
theorem loopFl (ad : Option Addr) (n cap : Nat) (b : UInt8) (M : Nat) (W0 : World) (ks : List UInt8) (Q : Exit → Act → World → Prop) (hb : BytesAt W0 M (.slice ad n cap) ks) (hn : ks.length = n) (hn64 : n ≤ 64)
    (a : Act) (wr : World) (h : IFl (.slice ad n cap) b M W0 ks 0 a wr) (hq : ∀ a' w', IFl (.slice ad n cap) b M W0 ks 64 a' w' → Q (.exit 0) a' w') :
    Code.wp Tryd.prog (.loop (loopAt Tryd.f52.body 0)) Q a wr :=
  wp_count 64 (fun k => IFl (.slice ad n cap) b M W0 ks k) 0 (by omega) h (fun k a w hlt hI => roundFl ad n cap b M W0 ks Q hb hn hn64 k hlt a w hI) (fun a w hI => lastFl _ b M W0 ks Q _ hq a w hI)
theorem made64 : (madeCells (Value.int .u8 0).cells (64 * 1)).toList = (u8s (List.replicate 64 0)).toList := by kernel_rfl
theorem tbl_size2 {tbl : List Value} (h : u32s (kTab ++ hTab) = tbl.toArray) : (Tryd.prog.info? 45).map (·.size) = some tbl.toArray.size := by
  have h3 : (Tryd.prog.info? 45).map (·.size) = some 72 := by kernel_rfl
  have h2 : tbl.toArray.size = 72 := by rw [← h, u32s_size]; rfl
  rw [h2]
  exact h3
/-- What filled hands back. -/
def FilP (w : World) (b : UInt8) (key : List UInt8) (e : Ending) (w' : World) : Prop := ∃ M, e = .returned (.slice (some ⟨M, 0, none⟩) 64 64) ∧ OwnB w' w.heap.size (.slice (some ⟨M, 0, none⟩) 64 64) (turn b (keyB key)) ∧ Below w.heap.size w w'
set_option maxRecDepth 100000 in
set_option maxHeartbeats 1000000 in
theorem rfilled_any (tbl : List Value) (htb : u32s (kTab ++ hTab) = tbl.toArray) (key : List UInt8) (b : UInt8) (v : Value) (w : World) (hv : Bytes w v key) (hl : key.length ≤ 1000000) :
    Calls Tryd.prog 52 #[.agg tbl.toArray, v, .int .u8 (ub b)] w (FilP w b key) := by
  have HV := Bx.mk hv
  have HTB := Bx.mk htb
  obtain ⟨a, cap, rfl, -⟩ := hv
  obtain ⟨n, hn⟩ : ∃ n, key.length = n := ⟨_, rfl⟩
  have HN := Bx.mk hn
  rw [hn] at HV hl ⊢
  have hn1 : (n : Int) ≤ 1000000 := by omega
  clear hn htb
  have HT0 : Bx (RT w tbl (w.alloc (.cells tbl.toArray 45))) := Bx.mk ⟨below_a _, by simp, hnew _ _ _ rfl⟩
  obtain ⟨i0, hi0, hz0, hz1, hz2⟩ := info_parts (P := Tryd.prog) (e := 5) (z := .int .u8 0) (size := 1) (bytes := 1) (by kernel_rfl)
  go_enter Tryd.func52, Tryd.ntmps52
  by_cases hlt : 64 < n
  · have t1 : (64 : Int) < (n : Int) := by omega
    have HIT := Bx.mk (tbl_size2 HTB.out)
    go_upto_region 2 with (fail)
    have HV2 : Bx (Bytes (w.alloc (.cells tbl.toArray 45)) (.slice a n cap) key) := Bx.mk (HV.out.later (below_a _))
    generalize w.alloc (.cells tbl.toArray 45) = w1 at *
    go_wp2_with (refine wpList_load_row rfl 45 _ rfl w.heap.size (by rfl) _ _ _ _ HT0.out.row Tryd.underlying45 rfl HIT.out ?_)
    have HR : Bx (Calls Tryd.prog 51 #[.agg tbl.toArray, .slice a n cap] w1 fun e w' => e = .returned (.agg (u8s (sha key))) ∧ Below w1.heap.size w1 w') := Bx.mk (by rw [← HTB.out]; exact rsum_any key _ w1 HV2.out (by rw [HN.out]; omega))
    refine HR.out.mono ?_
    rintro e w2 ⟨rfl, hb2⟩
    have H2 : Bx (RT w tbl w2) := Bx.mk (HT0.out.later hb2)
    clear hb2 HR
    have HSL : Bx ((sha key).length = 32) := Bx.mk (sha_length _)
    have HKs : Bx (fillK (sha key) = keyB key) := Bx.mk (by unfold keyB shortK; rw [if_pos (by rw [HN.out]; exact hlt)])
    generalize sha key = sk at *
    have HI3 : Bx ((Tryd.prog.info? 27).map (·.size) = some (u8s sk).size) := Bx.mk (by rw [u8s_size, HSL.out]; kernel_rfl)
    have HZ3 : Bx ((u8s sk).size = (u8s (List.replicate 32 0)).size) := Bx.mk (by rw [u8s_size, u8s_size, HSL.out]; rfl)
    go_upto_region 4 with (refine wpList_store_var rfl 27 _ _ rfl w2 _ _ rfl (by rfl) (u8s sk) (by rfl) HZ3.out HI3.out (one_u8s _) ?_; intro w3 hb3 hr3 hl3)
    have HX0 : Bx (Below w.heap.size w w3 ∧ Bytes w3 (.slice (some ⟨w2.heap.size, 0, none⟩) 32 32) sk ∧ sk.length = 32 ∧ fillK sk = keyB key) := Bx.mk ⟨(H2.out.later hb3).below, row_bytes hr3 HSL.out, HSL.out, HKs.out⟩
    have HN64 : Bx (32 ≤ 64) := Bx.mk (by omega)
    clear hb3 hr3 hl3 H2 HV HV2 HSL HKs HI3 HZ3 HT0 HIT
    generalize w2.heap.size = D at *
    have HX : Bx (Below w.heap.size w w3 ∧ Bytes w3 (.slice (some ⟨D, 0, none⟩) 32 32) sk ∧ sk.length = 32 ∧ fillK sk = keyB key) := HX0
    clear HX0
    go_wp2_with (refine wpList_make_full w3 rfl _ _ 26 rfl w.heap.size 5 i0 _ 1 Tryd.underlying26 hi0 hz0 hz1 .i64 .i64 64 64 64 (by rfl) (by rfl) rfl rfl (by rw [hz2]; omega) (by unfold maxLen; omega) HX.out.1.size ?_; intro w5 ho5 hg5)
    have H5 : Bx (w5.heap[w3.heap.size]? = some (.cells (u8s (List.replicate 64 0)) 5 (0, 0)) ∧ Below w3.heap.size w3 w5) := Bx.mk ⟨own_row (base := w.heap.size) (by have h := ho5; rw [made64] at h; exact h), ⟨hg5.os, hg5.tape, hg5.output, hg5.size, fun i hi => hg5.block i hi (by intro e; cases e)⟩⟩
    clear ho5 hg5
    have HBA : Bx (BytesAt w5 w3.heap.size (.slice (some ⟨D, 0, none⟩) 32 32) sk) := Bx.mk (HX.out.2.1.apart H5.out.2 _ (Nat.le_refl _))
    refine loopFl (some ⟨D, 0, none⟩) 32 32 b w3.heap.size w5 sk _ HBA.out HX.out.2.2.1 HN64.out _ _ ⟨⟨rfl, rfl⟩, rfl, rfl, rfl, rfl, by rw [show fo b (fillK sk) 0 = List.replicate 64 0 from rfl]; exact H5.out.1, kb_refl _ _⟩ ?_
    intro a' w6 hI
    have H6 : Bx (OwnB w6 w.heap.size (.slice (some ⟨w3.heap.size, 0, none⟩) 64 64) (turn b (keyB key)) ∧ Below w.heap.size w w6) := Bx.mk ⟨row_own (by have h := hI.row; rw [fo_all b _ (fillK_length _ (by have := HX.out.2.2.1; have := HN64.out; omega)), HX.out.2.2.2] at h; exact h) (by rw [turn_length, keyB_length]) HX.out.1.size (by omega), below_kb (HX.out.1.trans (H5.out.2.mono HX.out.1.size)) (Nat.le_trans HX.out.1.size H5.out.2.size) hI.kept HX.out.1.size⟩
    obtain ⟨x, rfl, hx⟩ := open43 hI.fr
    have e8 := (hx 8).symm.trans hI.s8
    clear hI hx
    rw [e8]
    clear e8
    go_wp2
    go_ret
    exact ⟨_, rfl, H6.out⟩
  · have t1 : ¬ (64 : Int) < (n : Int) := by omega
    go_upto_region 4 with (fail)
    have HX0 : Bx (Below w.heap.size w (w.alloc (.cells tbl.toArray 45)) ∧ Bytes (w.alloc (.cells tbl.toArray 45)) (.slice a n cap) key ∧ key.length = n ∧ fillK key = keyB key) := Bx.mk ⟨below_a _, HV.out.later (below_a _), HN.out, by unfold keyB shortK; rw [if_neg (by rw [HN.out]; exact hlt)]⟩
    generalize w.alloc (.cells tbl.toArray 45) = w3 at *
    have HN64 : Bx (n ≤ 64) := Bx.mk (by omega)
    clear HV HT0
    have HX : Bx (Below w.heap.size w w3 ∧ Bytes w3 (.slice a n cap) key ∧ key.length = n ∧ fillK key = keyB key) := HX0
    clear HX0
    go_wp2_with (refine wpList_make_full w3 rfl _ _ 26 rfl w.heap.size 5 i0 _ 1 Tryd.underlying26 hi0 hz0 hz1 .i64 .i64 64 64 64 (by rfl) (by rfl) rfl rfl (by rw [hz2]; omega) (by unfold maxLen; omega) HX.out.1.size ?_; intro w5 ho5 hg5)
    have H5 : Bx (w5.heap[w3.heap.size]? = some (.cells (u8s (List.replicate 64 0)) 5 (0, 0)) ∧ Below w3.heap.size w3 w5) := Bx.mk ⟨own_row (base := w.heap.size) (by have h := ho5; rw [made64] at h; exact h), ⟨hg5.os, hg5.tape, hg5.output, hg5.size, fun i hi => hg5.block i hi (by intro e; cases e)⟩⟩
    clear ho5 hg5
    have HBA : Bx (BytesAt w5 w3.heap.size (.slice a n cap) key) := Bx.mk (HX.out.2.1.apart H5.out.2 _ (Nat.le_refl _))
    refine loopFl a n cap b w3.heap.size w5 key _ HBA.out HX.out.2.2.1 HN64.out _ _ ⟨⟨rfl, rfl⟩, rfl, rfl, rfl, rfl, by rw [show fo b (fillK key) 0 = List.replicate 64 0 from rfl]; exact H5.out.1, kb_refl _ _⟩ ?_
    intro a' w6 hI
    have H6 : Bx (OwnB w6 w.heap.size (.slice (some ⟨w3.heap.size, 0, none⟩) 64 64) (turn b (keyB key)) ∧ Below w.heap.size w w6) := Bx.mk ⟨row_own (by have h := hI.row; rw [fo_all b _ (fillK_length _ (by have := HX.out.2.2.1; have := HN64.out; omega)), HX.out.2.2.2] at h; exact h) (by rw [turn_length, keyB_length]) HX.out.1.size (by omega), below_kb (HX.out.1.trans (H5.out.2.mono HX.out.1.size)) (Nat.le_trans HX.out.1.size H5.out.2.size) hI.kept HX.out.1.size⟩
    obtain ⟨x, rfl, hx⟩ := open43 hI.fr
    have e8 := (hx 8).symm.trans hI.s8
    clear hI hx
    rw [e8]
    clear e8
    go_wp2
    go_ret
    exact ⟨_, rfl, H6.out⟩
end Go.Proofs.YtaoekfomffebhaaDoor
namespace Go.Proofs.YtaoekfomffebhaaDoor
open Go Go.RowKit
theorem consL {P : Program} {ops : Array Oper} {Q : Exit → Act → World → Prop} {md : Region.Mode} {S : World → Prop} {fuel : Nat} {listed : Array Bool} {a : Act} {w : World} (i : Nat) {o : Oper} {rs : List Nat} (ho : ops.toList[i]? = some o)
    (h : ∀ K' : Act → World → Prop, Shut (∀ a w, S w → (S w → wpAnyH P md ops Q S fuel (listed.setIfInBounds i true) a w) → K' a w) → if Region.wanted o (yielded ops a.tmps) = true then Oper.wp P o a w K' Q else K' (a.put o.dst undef) w)
    (hs : AllReadyH P md ops Q S fuel listed a w rs) : AllReadyH P md ops Q S fuel listed a w (i :: rs) := AllReadyH.cons (by rw [← Array.getElem?_toList]; exact ho) h hs
/-- Bytes that grow lie in another block than an array. -/
theorem own_arr {w : World} {base D : Nat} {v : Value} {l : List UInt8} {c : Array Value} (h : OwnB w base v l) (hD : w.heap[D]? = some (.cells c 27 (0, 0))) : some D ≠ v.ownBlock := by
  intro e
  rcases h.2 with ⟨rfl, _⟩ | ⟨g, cap, cur, rfl, _, hh, _⟩
  · cases e
  · injection e with e
    simp only at e
    subst e
    rw [hD] at hh
    injection hh with e
    injection e with _ e2
    exact absurd e2 (by decide)
set_option maxRecDepth 100000 in
theorem open22 {a : Act} (h : Fr 22 a) : ∃ x : Nat → Value, a = ⟨List.toArray (x 0 :: x 1 :: x 2 :: x 3 :: x 4 :: x 5 :: x 6 :: x 7 :: x 8 :: x 9 :: x 10 :: x 11 :: x 12 :: x 13 :: x 14 :: x 15 :: x 16 :: x 17 :: x 18 :: x 19 :: x 20 :: x 21 :: []), []⟩ ∧ ∀ i, a.eval (.tmp i) = x i := ⟨fun i => a.tmps.getD i undef, h.form, fun _ => rfl⟩
structure IT (vk vb : Value) (T R : Nat) (a : Act) : Prop where
  fr : Fr 22 a
  s1 : a.eval (.tmp 1) = vk
  s2 : a.eval (.tmp 2) = vb
  s3 : a.eval (.tmp 3) = .pointer (some ⟨T, 0, none⟩)
  s6 : a.eval (.tmp 6) = .pointer (some ⟨R, 0, none⟩)
/-- What stays while a tag is made. -/
structure TS (w2 : World) (T R : Nat) (tbl : List Value) (vk vb : Value) (key bb : List UInt8) : Prop where
  row : w2.heap[T]? = some (.cells tbl.toArray 45 (0, 0))
  res : w2.heap[R]? = some (.cells (u8s (List.replicate 32 0)) 27 (0, 0))
  ne : T ≠ R
  hkey : Bytes w2 vk key
  hbytes : Bytes w2 vb bb
  kl : key.length ≤ 1000000
  bl : bb.length ≤ 1000000
  is : u32s (kTab ++ hTab) = tbl.toArray
theorem TS.rng {w2 W : World} {T R : Nat} {tbl : List Value} {vk vb : Value} {key bb : List UInt8} (h : TS w2 T R tbl vk vb key bb) (hb : Below w2.heap.size w2 W) : W.rangeAt T 0 tbl := fun j v hv => by
  rw [hb.cell (p := ⟨T, 0 + j, none⟩) (Array.getElem?_eq_some_iff.1 h.row).1, cell_of_row _ _ _ _ _ _ h.row, Nat.zero_add, ← Array.getElem?_toList]
  exact hv
/-- filled, called where these stay. -/
def FilQ (w2 : World) (l : List UInt8) (W : World) (e : Ending) (W' : World) : Prop := ∃ M, e = .returned (.slice (some ⟨M, 0, none⟩) 64 64) ∧ Bx (OwnB W' w2.heap.size (.slice (some ⟨M, 0, none⟩) 64 64) l ∧ Below W.heap.size W W')
theorem TS.fil {w2 : World} {T R : Nat} {tbl : List Value} {vk vb : Value} {key bb : List UInt8} (st : TS w2 T R tbl vk vb key bb) {W : World} (b : UInt8) (hb : Below w2.heap.size w2 W) : Calls Tryd.prog 52 #[.agg tbl.toArray, vk, .int .u8 (ub b)] W (FilQ w2 (turn b (keyB key)) W) :=
  (rfilled_any tbl st.is key b vk W (st.hkey.later hb) st.kl).mono fun _ _ ⟨M, he, ho, hb2⟩ => ⟨M, he, ⟨ho.weak hb.size, hb2⟩⟩
theorem TS.sum {w2 : World} {T R : Nat} {tbl : List Value} {vk vb : Value} {key bb : List UInt8} (st : TS w2 T R tbl vk vb key bb) {W : World} {x : Value} {ps : List UInt8} (hx : Bytes W x ps) (hl : ps.length ≤ 10000000) : Calls Tryd.prog 51 #[.agg tbl.toArray, x] W fun e W' => e = .returned (.agg (vs8 (sha ps)).toArray) ∧ Bx (Below W.heap.size W W') := by
  rw [← st.is, ← u8s_vs]
  exact (rsum_any ps x W hx (by omega)).mono fun _ _ ⟨he, hb⟩ => ⟨he, ⟨hb⟩⟩
theorem tbl_size3 {tbl : List Value} (h : u32s (kTab ++ hTab) = tbl.toArray) : (Tryd.prog.info? 45).map (·.size) = some tbl.length := by
  have h2 := tbl_size2 h
  rw [h2]; simp
theorem one_vs (l : List UInt8) : ((vs8 l).toArray).all (·.oneCell') = true := one_u8s l
set_option maxRecDepth 100000 in
set_option maxHeartbeats 2000000 in
theorem reg1T (w2 : World) (T R : Nat) (tbl : List Value) (vk vb : Value) (key bb : List UInt8) (st : TS w2 T R tbl vk vb key bb) (Q : Exit → Act → World → Prop) (a : Act) (h : IT vk vb T R a)
    (hQ : ∀ a' W' D, IT vk vb T R a' → a'.eval (.tmp 7) = .pointer (some ⟨D, 0, none⟩) → Below w2.heap.size w2 W' → W'.heap[D]? = some (.cells (u8s (sha (turn 54 (keyB key) ++ bb))) 27 (0, 0)) → Q .normal a' W') :
    Code.wp Tryd.prog (regionAt Tryd.f35.body 1) Q a w2 := by
  have HMk : Bx (∀ W, Below w2.heap.size w2 W → W.rangeAt T 0 tbl ∧ Bx (Below w2.heap.size w2 W)) := Bx.mk (fun W hb => ⟨st.rng hb, ⟨hb⟩⟩)
  have HFil : Bx (∀ W, Below w2.heap.size w2 W → Calls Tryd.prog 52 #[.agg tbl.toArray, vk, .int .u8 54] W (FilQ w2 (turn 54 (keyB key)) W)) := Bx.mk (fun W hb => st.fil 54 hb)
  have HSum : Bx (∀ W x, Bytes W x (turn 54 (keyB key) ++ bb) → Calls Tryd.prog 51 #[.agg tbl.toArray, x] W fun e W' => e = .returned (.agg (vs8 (sha (turn 54 (keyB key) ++ bb))).toArray) ∧ Bx (Below W.heap.size W W')) := Bx.mk (fun W x hx => st.sum hx (by have := st.bl; rw [List.length_append, turn_length, keyB_length]; omega))
  have HBb : Bx (∀ W, Below w2.heap.size w2 W → Bytes W vb bb) := Bx.mk (fun W hb => st.hbytes.later hb)
  have HLn : Bx ((turn 54 (keyB key)).length + bb.length ≤ 140737488355328) := Bx.mk (by have := st.bl; rw [turn_length, keyB_length]; omega)
  have HQ := Bx.mk hQ
  have hu32 := Tryd.underlying45
  have hi32 := tbl_size3 st.is
  obtain ⟨z32, hz32⟩ : ∃ z, u8s (List.replicate 32 0) = z := ⟨_, rfl⟩
  have hz32v : ∀ W : World, (zeroValue 27).run Tryd.prog W = .ok (.agg z32) W := fun W => by rw [← hz32, zero32]; kernel_rfl
  have HZ : Bx (z32.size = 32) := Bx.mk (by rw [← hz32, u8s_size]; rfl)
  have HSL : Bx ((vs8 (sha (turn 54 (keyB key) ++ bb))).toArray.size = 32) := Bx.mk (by rw [← u8s_vs, u8s_size, sha_length])
  have HI : Bx ((Tryd.prog.info? 27).map (·.size) = some (vs8 (sha (turn 54 (keyB key) ++ bb))).toArray.size) := Bx.mk (by rw [HSL.out]; kernel_rfl)
  have HB0 : Bx (Below w2.heap.size w2 w2.drew) := Bx.mk (Below.refl _ _).drew
  obtain ⟨x, rfl, hx⟩ := open22 h.fr
  have e1 := (hx 1).symm.trans h.s1
  have e2 := (hx 2).symm.trans h.s2
  have e3 := (hx 3).symm.trans h.s3
  have e6 := (hx 6).symm.trans h.s6
  obtain ⟨ak, ck, hvk, -, -⟩ := bytes_form st.hkey
  obtain ⟨ab, cb, hvb, -, -⟩ := bytes_form st.hbytes
  obtain ⟨nk, hnk⟩ : ∃ n, key.length = n := ⟨_, rfl⟩
  obtain ⟨nb, hnb⟩ : ∃ n, bb.length = n := ⟨_, rfl⟩
  rw [hnk] at hvk
  rw [hnb] at hvb
  clear hnk hnb
  subst hvk
  subst hvb
  clear h hx hQ st hz32
  rw [e1, e2, e3, e6]
  clear e1 e2 e3 e6
  have HMO := Bx.mk (one_vs (sha (turn 54 (keyB key) ++ bb)))
  have HUV : Bx ((vs8 (sha (turn 54 (keyB key) ++ bb))).toArray = u8s (sha (turn 54 (keyB key) ++ bb))) := Bx.mk rfl
  generalize vs8 (sha (turn 54 (keyB key) ++ bb)) = o1 at *
  generalize turn 54 (keyB key) = t54 at *
  conv => arg 2; whnf
  refine wp_region_noPanic ?_
  refine wp_region_held_drew (S := fun W => W.rangeAt T 0 tbl ∧ Bx (Below w2.heap.size w2 W)) (by kernel_rfl) (HMk.out _ HB0.out) (fun hHeld => ?_)
  generalize w2.drew = W0 at *
  refine takeL 0 rfl (by kernel_rfl) (by kernel_rfl) (by kernel_rfl) (fun _ _ _ h => h) (yieldsIf_load_mid (by rfl) _ _ rfl _ _ rfl _ _ (fun w hSw => hSw.1) hu32 rfl hi32) hHeld ?_
  try simp only [Act.put, List.setIfInBounds_toArray, List.set_cons_zero, List.set_cons_succ]
  refine takeL 1 rfl (by kernel_rfl) (by kernel_rfl) (by kernel_rfl) (fun _ _ _ h => h) (yieldsIf_load_mid (by rfl) _ _ rfl _ _ rfl _ _ (fun w hSw => hSw.1) hu32 rfl hi32) hHeld ?_
  try simp only [Act.put, List.setIfInBounds_toArray, List.set_cons_zero, List.set_cons_succ]
  refine takeL 2 (v := ?_) rfl (by kernel_rfl) (by kernel_rfl) (by kernel_rfl) (fun _ _ _ h => h) (Or.inl ⟨by rfl, ?_⟩) hHeld ?_
  rotate_left 1
  · (intro w hSw; go_simp; try with_reducible rfl)
  try simp only [Act.put, List.setIfInBounds_toArray, List.set_cons_zero, List.set_cons_succ]
  refine takeL 4 (v := ?_) rfl (by kernel_rfl) (by kernel_rfl) (by kernel_rfl) (fun _ _ _ h => h) (Or.inl ⟨by rfl, ?_⟩) hHeld ?_
  rotate_left 1
  · (intro w hSw; go_simp; try with_reducible rfl)
  try simp only [Act.put, List.setIfInBounds_toArray, List.set_cons_zero, List.set_cons_succ]
  refine wpAnyH_ready (rs := [3, 7]) (by kernel_rfl) (by simp) ?_
  refine consL 3 rfl (fun K hK => ?_) (consL 7 rfl (fun K hK => ?_) AllReadyH.nil)
  · go_simp
    refine (HFil.out _ HB0.out).mono ?_
    rintro e W4 ⟨M, rfl, h3⟩
    show K _ _
    refine hK.out _ _ (HMk.out _ (HB0.out.trans (h3.out.2.mono HB0.out.size))) (fun hHeld => ?_)
    clear hK K
    try simp only [Act.put, List.setIfInBounds_toArray, List.set_cons_zero, List.set_cons_succ]
    have b4 := Bx.mk (HB0.out.trans (h3.out.2.mono HB0.out.size))
    have hOw := Bx.mk h3.out.1
    refine wpAnyH_ready (rs := [5, 7]) (by kernel_rfl) (by simp) ?_
    refine consL 5 rfl (fun K hK => ?_) (consL 7 rfl (fun K hK => ?_) AllReadyH.nil)
    · refine step_ap rfl _ _ rfl w2.heap.size _ t54 (by rfl) hOw.out _ bb (by rfl) (HBb.out _ b4.out) HLn.out b4.out.size ?_
      intro v5 W5 ho5 hg5 _
      have b5 : Bx (Below w2.heap.size w2 W5) := Bx.mk (b4.out.trans (own_below hOw.out hg5 b4.out.size))
      have hOw := Bx.mk ho5
      refine hK.out _ _ (HMk.out _ b5.out) (fun hHeld => ?_)
      clear hK K
      try simp only [Act.put, List.setIfInBounds_toArray, List.set_cons_zero, List.set_cons_succ]
      clear ho5 hg5
      refine wpAnyH_ready (rs := [6, 7]) (by kernel_rfl) (by simp) ?_
      refine consL 6 rfl (fun K hK => ?_) (consL 7 rfl (fun K hK => ?_) AllReadyH.nil)
      · go_simp
        refine (HSum.out _ _ hOw.out.bytes).mono ?_
        rintro e W6 ⟨rfl, h6⟩
        show K _ _
        refine hK.out _ _ (HMk.out _ (b5.out.trans (h6.out.mono b5.out.size))) (fun hHeld => ?_)
        clear hK K
        try simp only [Act.put, List.setIfInBounds_toArray, List.set_cons_zero, List.set_cons_succ]
        have b6 := Bx.mk (b5.out.trans (h6.out.mono b5.out.size))
        refine stepL 7 (by kernel_rfl) rfl (fun K hK => ?_)
        go_simp
        refine hK.out _ _ (HMk.out _ (b6.out.trans ((below_a _).mono b6.out.size))) (fun hHeld => ?_)
        clear hK K
        try simp only [Act.put, List.setIfInBounds_toArray, List.set_cons_zero, List.set_cons_succ]
        have b7 : Bx (Below w2.heap.size w2 (W6.alloc (.cells z32 27))) := Bx.mk (b6.out.trans ((below_a _).mono b6.out.size))
        have hD : Bx ((W6.alloc (.cells z32 27)).heap[W6.heap.size]? = some (.cells z32 27 (0, 0)) ∧ w2.heap.size ≤ W6.heap.size) := Bx.mk ⟨hnew _ _ _ rfl, b6.out.size⟩
        generalize W6.alloc (.cells z32 27) = W7 at *
        generalize W6.heap.size = D at *
        refine stepL 8 (by kernel_rfl) rfl (fun K hK => ?_)
        have hS8 := Bx.mk (heap_setCells_all hD.out.1 (HSL.out.trans HZ.out.symm))
        have hB8 := Bx.mk (below_setCells hD.out.2 o1 0 _ _ b7.out)
        refine step_st rfl 27 _ _ rfl D o1.toArray (by rfl) (by rfl) (there_row hD.out.1 0 _ (by rw [HSL.out, HZ.out]; omega)) HI.out HMO.out ?_
        refine hK.out _ _ (HMk.out _ hB8.out) (fun hHeld => ?_)
        refine wpAnyH_done (by kernel_rfl) ?_ _
        exact NoPanic.normal (HQ.out _ _ D ⟨⟨rfl, rfl⟩, rfl, rfl, rfl, rfl⟩ rfl hB8.out (by rw [← HUV.out]; exact hS8.out))
      · go_simp
        refine hK.out _ _ (HMk.out _ (b5.out.trans ((below_a _).mono b5.out.size))) (fun hHeld => ?_)
        clear hK K
        try simp only [Act.put, List.setIfInBounds_toArray, List.set_cons_zero, List.set_cons_succ]
        have b6 : Bx (Below w2.heap.size w2 (W5.alloc (.cells z32 27))) := Bx.mk (b5.out.trans ((below_a _).mono b5.out.size))
        have hD : Bx ((W5.alloc (.cells z32 27)).heap[W5.heap.size]? = some (.cells z32 27 (0, 0)) ∧ w2.heap.size ≤ W5.heap.size) := Bx.mk ⟨hnew _ _ _ rfl, b5.out.size⟩
        have hOw := Bx.mk (hOw.out.later (below_a (.cells z32 27)) (fun g hg => (hOw.out.lt g hg).1))
        generalize W5.alloc (.cells z32 27) = W6 at *
        generalize W5.heap.size = D at *
        refine stepL 6 (by kernel_rfl) rfl (fun K hK => ?_)
        go_simp
        refine (HSum.out _ _ hOw.out.bytes).mono ?_
        rintro e W7 ⟨rfl, h6⟩
        show K _ _
        refine hK.out _ _ (HMk.out _ (b6.out.trans (h6.out.mono b6.out.size))) (fun hHeld => ?_)
        clear hK K
        try simp only [Act.put, List.setIfInBounds_toArray, List.set_cons_zero, List.set_cons_succ]
        have b7 := Bx.mk (b6.out.trans (h6.out.mono b6.out.size))
        have hD := Bx.mk (And.intro ((h6.out.block _ (Array.getElem?_eq_some_iff.1 hD.out.1).1).trans hD.out.1) hD.out.2)
        refine stepL 8 (by kernel_rfl) rfl (fun K hK => ?_)
        have hS8 := Bx.mk (heap_setCells_all hD.out.1 (HSL.out.trans HZ.out.symm))
        have hB8 := Bx.mk (below_setCells hD.out.2 o1 0 _ _ b7.out)
        refine step_st rfl 27 _ _ rfl D o1.toArray (by rfl) (by rfl) (there_row hD.out.1 0 _ (by rw [HSL.out, HZ.out]; omega)) HI.out HMO.out ?_
        refine hK.out _ _ (HMk.out _ hB8.out) (fun hHeld => ?_)
        refine wpAnyH_done (by kernel_rfl) ?_ _
        exact NoPanic.normal (HQ.out _ _ D ⟨⟨rfl, rfl⟩, rfl, rfl, rfl, rfl⟩ rfl hB8.out (by rw [← HUV.out]; exact hS8.out))
    · go_simp
      refine hK.out _ _ (HMk.out _ (b4.out.trans ((below_a _).mono b4.out.size))) (fun hHeld => ?_)
      clear hK K
      try simp only [Act.put, List.setIfInBounds_toArray, List.set_cons_zero, List.set_cons_succ]
      have b5 : Bx (Below w2.heap.size w2 (W4.alloc (.cells z32 27))) := Bx.mk (b4.out.trans ((below_a _).mono b4.out.size))
      have hD : Bx ((W4.alloc (.cells z32 27)).heap[W4.heap.size]? = some (.cells z32 27 (0, 0)) ∧ w2.heap.size ≤ W4.heap.size) := Bx.mk ⟨hnew _ _ _ rfl, b4.out.size⟩
      have hOw := Bx.mk (hOw.out.later (below_a (.cells z32 27)) (fun g hg => (hOw.out.lt g hg).1))
      generalize W4.alloc (.cells z32 27) = W5 at *
      generalize W4.heap.size = D at *
      refine stepL 5 (by kernel_rfl) rfl (fun K hK => ?_)
      refine step_ap rfl _ _ rfl w2.heap.size _ t54 (by rfl) hOw.out _ bb (by rfl) (HBb.out _ b5.out) HLn.out b5.out.size ?_
      intro v5 W6 ho5 hg5 _
      have b6 : Bx (Below w2.heap.size w2 W6) := Bx.mk (b5.out.trans (own_below hOw.out hg5 b5.out.size))
      have hD := Bx.mk (And.intro ((hg5.block _ (Array.getElem?_eq_some_iff.1 hD.out.1).1 (own_arr hOw.out hD.out.1)).trans hD.out.1) hD.out.2)
      have hOw := Bx.mk ho5
      refine hK.out _ _ (HMk.out _ b6.out) (fun hHeld => ?_)
      clear hK K
      try simp only [Act.put, List.setIfInBounds_toArray, List.set_cons_zero, List.set_cons_succ]
      clear ho5 hg5
      refine stepL 6 (by kernel_rfl) rfl (fun K hK => ?_)
      go_simp
      refine (HSum.out _ _ hOw.out.bytes).mono ?_
      rintro e W7 ⟨rfl, h6⟩
      show K _ _
      refine hK.out _ _ (HMk.out _ (b6.out.trans (h6.out.mono b6.out.size))) (fun hHeld => ?_)
      clear hK K
      try simp only [Act.put, List.setIfInBounds_toArray, List.set_cons_zero, List.set_cons_succ]
      have b7 := Bx.mk (b6.out.trans (h6.out.mono b6.out.size))
      have hD := Bx.mk (And.intro ((h6.out.block _ (Array.getElem?_eq_some_iff.1 hD.out.1).1).trans hD.out.1) hD.out.2)
      refine stepL 8 (by kernel_rfl) rfl (fun K hK => ?_)
      have hS8 := Bx.mk (heap_setCells_all hD.out.1 (HSL.out.trans HZ.out.symm))
      have hB8 := Bx.mk (below_setCells hD.out.2 o1 0 _ _ b7.out)
      refine step_st rfl 27 _ _ rfl D o1.toArray (by rfl) (by rfl) (there_row hD.out.1 0 _ (by rw [HSL.out, HZ.out]; omega)) HI.out HMO.out ?_
      refine hK.out _ _ (HMk.out _ hB8.out) (fun hHeld => ?_)
      refine wpAnyH_done (by kernel_rfl) ?_ _
      exact NoPanic.normal (HQ.out _ _ D ⟨⟨rfl, rfl⟩, rfl, rfl, rfl, rfl⟩ rfl hB8.out (by rw [← HUV.out]; exact hS8.out))
  · go_simp
    refine hK.out _ _ (HMk.out _ (HB0.out.trans ((below_a _).mono HB0.out.size))) (fun hHeld => ?_)
    clear hK K
    try simp only [Act.put, List.setIfInBounds_toArray, List.set_cons_zero, List.set_cons_succ]
    have b4 : Bx (Below w2.heap.size w2 (W0.alloc (.cells z32 27))) := Bx.mk (HB0.out.trans ((below_a _).mono HB0.out.size))
    have hD : Bx ((W0.alloc (.cells z32 27)).heap[W0.heap.size]? = some (.cells z32 27 (0, 0)) ∧ w2.heap.size ≤ W0.heap.size) := Bx.mk ⟨hnew _ _ _ rfl, HB0.out.size⟩
    generalize W0.alloc (.cells z32 27) = W4 at *
    generalize W0.heap.size = D at *
    refine stepL 3 (by kernel_rfl) rfl (fun K hK => ?_)
    go_simp
    refine (HFil.out _ b4.out).mono ?_
    rintro e W5 ⟨M, rfl, h3⟩
    show K _ _
    refine hK.out _ _ (HMk.out _ (b4.out.trans (h3.out.2.mono b4.out.size))) (fun hHeld => ?_)
    clear hK K
    try simp only [Act.put, List.setIfInBounds_toArray, List.set_cons_zero, List.set_cons_succ]
    have b5 := Bx.mk (b4.out.trans (h3.out.2.mono b4.out.size))
    have hOw := Bx.mk h3.out.1
    have hD := Bx.mk (And.intro ((h3.out.2.block _ (Array.getElem?_eq_some_iff.1 hD.out.1).1).trans hD.out.1) hD.out.2)
    refine stepL 5 (by kernel_rfl) rfl (fun K hK => ?_)
    refine step_ap rfl _ _ rfl w2.heap.size _ t54 (by rfl) hOw.out _ bb (by rfl) (HBb.out _ b5.out) HLn.out b5.out.size ?_
    intro v5 W6 ho5 hg5 _
    have b6 : Bx (Below w2.heap.size w2 W6) := Bx.mk (b5.out.trans (own_below hOw.out hg5 b5.out.size))
    have hD := Bx.mk (And.intro ((hg5.block _ (Array.getElem?_eq_some_iff.1 hD.out.1).1 (own_arr hOw.out hD.out.1)).trans hD.out.1) hD.out.2)
    have hOw := Bx.mk ho5
    refine hK.out _ _ (HMk.out _ b6.out) (fun hHeld => ?_)
    clear hK K
    try simp only [Act.put, List.setIfInBounds_toArray, List.set_cons_zero, List.set_cons_succ]
    clear ho5 hg5
    refine stepL 6 (by kernel_rfl) rfl (fun K hK => ?_)
    go_simp
    refine (HSum.out _ _ hOw.out.bytes).mono ?_
    rintro e W7 ⟨rfl, h6⟩
    show K _ _
    refine hK.out _ _ (HMk.out _ (b6.out.trans (h6.out.mono b6.out.size))) (fun hHeld => ?_)
    clear hK K
    try simp only [Act.put, List.setIfInBounds_toArray, List.set_cons_zero, List.set_cons_succ]
    have b7 := Bx.mk (b6.out.trans (h6.out.mono b6.out.size))
    have hD := Bx.mk (And.intro ((h6.out.block _ (Array.getElem?_eq_some_iff.1 hD.out.1).1).trans hD.out.1) hD.out.2)
    refine stepL 8 (by kernel_rfl) rfl (fun K hK => ?_)
    have hS8 := Bx.mk (heap_setCells_all hD.out.1 (HSL.out.trans HZ.out.symm))
    have hB8 := Bx.mk (below_setCells hD.out.2 o1 0 _ _ b7.out)
    refine step_st rfl 27 _ _ rfl D o1.toArray (by rfl) (by rfl) (there_row hD.out.1 0 _ (by rw [HSL.out, HZ.out]; omega)) HI.out HMO.out ?_
    refine hK.out _ _ (HMk.out _ hB8.out) (fun hHeld => ?_)
    refine wpAnyH_done (by kernel_rfl) ?_ _
    exact NoPanic.normal (HQ.out _ _ D ⟨⟨rfl, rfl⟩, rfl, rfl, rfl, rfl⟩ rfl hB8.out (by rw [← HUV.out]; exact hS8.out))
set_option maxRecDepth 100000 in
set_option maxHeartbeats 2000000 in
theorem rtag_any (tbl : List Value) (htb : u32s (kTab ++ hTab) = tbl.toArray) (key bb : List UInt8) (vk vb : Value) (w : World) (hk : Bytes w vk key) (hb : Bytes w vb bb) (hkl : key.length ≤ 1000000) (hbl : bb.length ≤ 1000000) :
    Calls Tryd.prog 35 #[.agg tbl.toArray, vk, vb] w fun e w' => e = .returned (.agg (u8s (hmac key bb))) ∧ Below w.heap.size w w' := by
  obtain ⟨z32, hz32⟩ : ∃ z, u8s (List.replicate 32 0) = z := ⟨_, rfl⟩
  have hz32v : ∀ W : World, (zeroValue 27).run Tryd.prog W = .ok (.agg z32) W := fun W => by rw [← hz32, zero32]; kernel_rfl
  have HST : Bx (TS ((w.alloc (.cells tbl.toArray 45)).alloc (.cells z32 27)) w.heap.size (w.heap.size + 1) tbl vk vb key bb ∧ Below w.heap.size w ((w.alloc (.cells tbl.toArray 45)).alloc (.cells z32 27))) := Bx.mk (by
    have hB : Below w.heap.size w ((w.alloc (.cells tbl.toArray 45)).alloc (.cells z32 27)) := ((Below.refl _ _).alloc (Nat.le_refl _) _).alloc (by simp) _
    exact ⟨⟨by rw [hold _ _ _ (by simp), hnew _ _ _ rfl], by rw [hnew _ _ _ (by simp), hz32], by omega, hk.later hB, hb.later hB, hkl, hbl, htb⟩, hB⟩)
  obtain ⟨hm, hhm⟩ : ∃ hm, hmac key bb = hm := ⟨_, rfl⟩
  have HHM : Bx (sha (turn 92 (keyB key) ++ sha (turn 54 (keyB key) ++ bb)) = hm) := Bx.mk hhm
  rw [hhm]
  have HKL : Bx (key.length ≤ 1000000) := Bx.mk hkl
  obtain ⟨ak, ck, hvk, -, -⟩ := bytes_form hk
  obtain ⟨ab, cb, hvb, -, -⟩ := bytes_form hb
  obtain ⟨nk, hnk⟩ : ∃ n, key.length = n := ⟨_, rfl⟩
  obtain ⟨nb, hnb⟩ : ∃ n, bb.length = n := ⟨_, rfl⟩
  rw [hnk] at hvk
  rw [hnb] at hvb
  clear hnk hnb hk hb hkl hbl htb hz32 hhm
  subst hvk
  subst hvb
  go_enter Tryd.func35, Tryd.ntmps35
  go_upto_region 1 with (fail)
  generalize (w.alloc (.cells tbl.toArray 45)).alloc (.cells z32 27) = w2 at *
  refine reg1T w2 w.heap.size (w.heap.size + 1) tbl _ _ key bb HST.out.1 _ _ ⟨⟨rfl, rfl⟩, rfl, rfl, rfl, rfl⟩ ?_
  intro a' W1 D hIT h7 hB1 hr1
  have H1 : Bx (Below w2.heap.size w2 W1 ∧ W1.heap[D]? = some (.cells (u8s (sha (turn 54 (keyB key) ++ bb))) 27 (0, 0))) := Bx.mk ⟨hB1, hr1⟩
  clear hB1 hr1 hz32v
  have HIL : Bx ((sha (turn 54 (keyB key) ++ bb)).length = 32) := Bx.mk (sha_length _)
  generalize sha (turn 54 (keyB key) ++ bb) = inn at *
  obtain ⟨x, rfl, hx⟩ := open22 hIT.fr
  have e1 := (hx 1).symm.trans hIT.s1
  have e2 := (hx 2).symm.trans hIT.s2
  have e3 := (hx 3).symm.trans hIT.s3
  have e6 := (hx 6).symm.trans hIT.s6
  have e7 := (hx 7).symm.trans h7
  clear hIT hx h7
  rw [e1, e2, e3, e6, e7]
  clear e1 e2 e3 e6 e7
  go_upto_region 2 with (fail)
  have HMk : Bx (∀ W, Below w2.heap.size w2 W → W.rangeAt w.heap.size 0 tbl ∧ Bx (Below w.heap.size w W)) := Bx.mk (fun W hb => ⟨HST.out.1.rng hb, ⟨HST.out.2.trans (hb.mono HST.out.2.size)⟩⟩)
  have HFil : Bx (∀ W, Below w2.heap.size w2 W → Calls Tryd.prog 52 #[.agg tbl.toArray, .slice ak nk ck, .int .u8 92] W (FilQ w2 (turn 92 (keyB key)) W)) := Bx.mk (fun W hb => HST.out.1.fil 92 hb)
  have HTL : Bx ((turn 92 (keyB key)).length = 64) := Bx.mk (by rw [turn_length, keyB_length])
  have HSum : Bx (∀ W x, Bytes W x (turn 92 (keyB key) ++ inn) → Calls Tryd.prog 51 #[.agg tbl.toArray, x] W fun e W' => e = .returned (.agg (vs8 (sha (turn 92 (keyB key) ++ inn))).toArray) ∧ Bx (Below W.heap.size W W')) := Bx.mk (fun W x hx => HST.out.1.sum hx (by rw [List.length_append, HTL.out, HIL.out]; omega))
  have hu32 := Tryd.underlying45
  have hi32 := tbl_size3 HST.out.1.is
  have HB0 : Bx (Below w2.heap.size w2 W1.drew ∧ W1.drew.heap[D]? = some (.cells (u8s inn) 27 (0, 0))) := Bx.mk ⟨H1.out.1.drew, H1.out.2⟩
  clear H1
  have HRS : Bx (∀ W, Below w2.heap.size w2 W → W.heap[w.heap.size + 1]? = some (.cells (u8s (List.replicate 32 0)) 27 (0, 0))) := Bx.mk (fun W hb => by rw [hb.block _ (Array.getElem?_eq_some_iff.1 HST.out.1.res).1]; exact HST.out.1.res)
  generalize turn 92 (keyB key) = t92 at *
  refine wp_region_noPanic ?_
  refine wp_region_held_drew (S := fun W => W.rangeAt w.heap.size 0 tbl ∧ Bx (Below w.heap.size w W)) (by kernel_rfl) (HMk.out _ HB0.out.1) (fun hHeld => ?_)
  generalize W1.drew = W0 at *
  refine takeL 0 rfl (by kernel_rfl) (by kernel_rfl) (by kernel_rfl) (fun _ _ _ h => h) (yieldsIf_load_mid (by rfl) _ _ rfl _ _ rfl _ _ (fun w hSw => hSw.1) hu32 rfl hi32) hHeld ?_
  try simp only [Act.put, List.setIfInBounds_toArray, List.set_cons_zero, List.set_cons_succ]
  refine takeL 1 rfl (by kernel_rfl) (by kernel_rfl) (by kernel_rfl) (fun _ _ _ h => h) (yieldsIf_load_mid (by rfl) _ _ rfl _ _ rfl _ _ (fun w hSw => hSw.1) hu32 rfl hi32) hHeld ?_
  try simp only [Act.put, List.setIfInBounds_toArray, List.set_cons_zero, List.set_cons_succ]
  refine takeL 2 (v := ?_) rfl (by kernel_rfl) (by kernel_rfl) (by kernel_rfl) (fun _ _ _ h => h) (Or.inl ⟨by rfl, ?_⟩) hHeld ?_
  rotate_left 1
  · (intro w hSw; go_simp; try with_reducible rfl)
  try simp only [Act.put, List.setIfInBounds_toArray, List.set_cons_zero, List.set_cons_succ]
  refine takeL 4 (v := ?_) rfl (by kernel_rfl) (by kernel_rfl) (by kernel_rfl) (fun _ _ _ h => h) (Or.inl ⟨by rfl, ?_⟩) hHeld ?_
  rotate_left 1
  · (intro w hSw; go_simp; try with_reducible rfl)
  try simp only [Act.put, List.setIfInBounds_toArray, List.set_cons_zero, List.set_cons_succ]
  refine stepL 3 (by kernel_rfl) rfl (fun K hK => ?_)
  go_simp
  refine (HFil.out _ HB0.out.1).mono ?_
  rintro e W3 ⟨M, rfl, h3⟩
  show K _ _
  refine hK.out _ _ (HMk.out _ (HB0.out.1.trans (h3.out.2.mono HB0.out.1.size))) (fun hHeld => ?_)
  clear hK K
  try simp only [Act.put, List.setIfInBounds_toArray, List.set_cons_zero, List.set_cons_succ]
  have H3 : Bx (Below w2.heap.size w2 W3 ∧ Bytes W3 (.slice (some ⟨D, 0, none⟩) 32 32) inn ∧ OwnB W3 w2.heap.size (.slice (some ⟨M, 0, none⟩) 64 64) t92) := Bx.mk ⟨HB0.out.1.trans (h3.out.2.mono HB0.out.1.size), (row_bytes HB0.out.2 HIL.out).later h3.out.2, h3.out.1⟩
  clear h3
  refine stepL 5 (by kernel_rfl) rfl (fun K hK => ?_)
  refine step_ap rfl _ _ rfl w2.heap.size _ t92 (by rfl) H3.out.2.2 _ inn (by rfl) H3.out.2.1 (by rw [HTL.out, HIL.out]; omega) H3.out.1.size ?_
  intro v5 W5 ho5 hg5 _
  have H5 : Bx (Below w2.heap.size w2 W5 ∧ Bytes W5 v5 (t92 ++ inn)) := Bx.mk ⟨H3.out.1.trans (own_below H3.out.2.2 hg5 H3.out.1.size), ho5.bytes⟩
  refine hK.out _ _ (HMk.out _ H5.out.1) (fun hHeld => ?_)
  clear hK K
  try simp only [Act.put, List.setIfInBounds_toArray, List.set_cons_zero, List.set_cons_succ]
  clear ho5 hg5 H3
  refine stepL 6 (by kernel_rfl) rfl (fun K hK => ?_)
  go_simp
  refine (HSum.out _ _ H5.out.2).mono ?_
  rintro e W6 ⟨rfl, h6⟩
  show K _ _
  refine hK.out _ _ (HMk.out _ (H5.out.1.trans (h6.out.mono H5.out.1.size))) (fun hHeld => ?_)
  clear hK K
  try simp only [Act.put, List.setIfInBounds_toArray, List.set_cons_zero, List.set_cons_succ]
  have H6 : Bx (Below w2.heap.size w2 W6) := Bx.mk (H5.out.1.trans (h6.out.mono H5.out.1.size))
  have HUV : Bx ((vs8 (sha (t92 ++ inn))).toArray = u8s hm) := Bx.mk (by rw [HHM.out]; rfl)
  have HML : Bx (hm.length = 32) := Bx.mk (by rw [← HHM.out, sha_length])
  clear H5 h6
  rw [HUV.out]
  have HI3 : Bx ((Tryd.prog.info? 27).map (·.size) = some (u8s hm).size) := Bx.mk (by rw [u8s_size, HML.out]; kernel_rfl)
  have HR6 := Bx.mk (HRS.out _ H6.out)
  have Hw : Bx (w.heap.size + 1 < w2.heap.size ∧ w.heap.size ≠ w.heap.size + 1) := Bx.mk ⟨(Array.getElem?_eq_some_iff.1 HST.out.1.res).1, by omega⟩
  have Hd : Bx (Below w.heap.size w (W6.setCells (w.heap.size + 1) 0 (u8s hm).toList) ∧ (W6.setCells (w.heap.size + 1) 0 (u8s hm).toList).heap[w.heap.size + 1]? = some (.cells (u8s hm) 27 (0, 0))) := Bx.mk ⟨below_setCells (by omega) _ _ _ _ (HST.out.2.trans (H6.out.mono HST.out.2.size)), heap_setCells_all HR6.out (by rw [u8s_size, u8s_size, HML.out]; rfl)⟩
  have Hr : Bx ((W6.setCells (w.heap.size + 1) 0 (u8s hm).toList).rangeAt w.heap.size 0 tbl) := Bx.mk (fun j v hv => by
    have hx := (HMk.out _ H6.out).1 j v hv
    rw [← hx]
    show World.cell? _ _ = _
    unfold World.cell?
    rw [heap_setCells_other (w.heap.size + 1) w.heap.size (by omega)])
  refine stepL 7 (by kernel_rfl) rfl (fun K hK => ?_)
  refine step_st rfl 27 _ _ rfl (w.heap.size + 1) (u8s hm) (by rfl) (by rfl) (there_row HR6.out 0 _ (by rw [u8s_size, u8s_size, HML.out]; simp)) HI3.out (one_u8s _) ?_
  refine hK.out _ _ ⟨Hr.out, ⟨Hd.out.1⟩⟩ (fun hHeld => ?_)
  refine wpAnyH_done (by kernel_rfl) ?_ _
  refine NoPanic.normal ?_
  clear hK K hHeld
  go_wp2
  refine bodyPost_ret (results_cell_row rfl _ _ (w.heap.size + 1) _ (u8s hm) _ _ rfl Hd.out.2 Tryd.underlying27 rfl HI3.out) rfl ?_
  exact ⟨rfl, Hd.out.1⟩
end Go.Proofs.YtaoekfomffebhaaDoor
namespace Go.Proofs.YtaoekfomffebhaaDoor
open Go Go.RowKit
theorem BN.below {W W1 : World} {g : Nat} {v : Value} {l : List UInt8} (h : BN W g v l) (hb : Below W.heap.size W W1) : BN W1 g v l := h.later (kb_below (some g) hb)
/-- What framed has made so far. -/
structure FrS (w : World) (cap : Nat) (xs : List Value) (qs : List (List UInt8)) (W : World) : Prop where
  below : Below w.heap.size w W
  own : W.ownsRow w.heap.size 26 1 (.slice (some ⟨w.heap.size, 0, none⟩) xs.length cap) xs.length xs
  len : xs.length = qs.length
  vals : ∀ j, j < xs.length → BN W w.heap.size (xs.getD j undef) (qs.getD j [])
  lt : w.heap.size < W.heap.size
theorem FrS.later {w W W1 : World} {cap : Nat} {xs : List Value} {qs : List (List UInt8)} (h : FrS w cap xs qs W) (hb : Below W.heap.size W W1) : FrS w cap xs qs W1 :=
  ⟨h.below.trans (hb.mono h.below.size), OwnP.later h.own hb (fun g hg => by injection hg with hg; have := h.lt; simp only at hg; omega), h.len, fun j hj => (h.vals j hj).below hb, Nat.lt_of_lt_of_le h.lt hb.size⟩
theorem FrS.more {w W W1 : World} {cap : Nat} {xs : List Value} {qs : List (List UInt8)} (h : FrS w cap xs qs W) {y z : Value} {p r : List UInt8} (hy : BN W w.heap.size y p) (hz : BN W w.heap.size z r)
    (ho : W1.ownsRow w.heap.size 26 1 (.slice (some ⟨w.heap.size, 0, none⟩) (xs.length + 2) cap) (xs.length + 2) (xs ++ [y, z])) (hk : W.grownBy W1 (some w.heap.size)) : FrS w cap (xs ++ [y, z]) (qs ++ [p, r]) W1 := by
  refine ⟨below_kb h.below h.below.size hk (Nat.le_refl _), by rw [List.length_append]; exact ho, by rw [List.length_append, List.length_append, h.len]; rfl, fun j hj => ?_, Nat.lt_of_lt_of_le h.lt hk.size⟩
  rw [List.length_append] at hj
  by_cases h1 : j < xs.length
  · have e1 : (xs ++ [y, z]).getD j undef = xs.getD j undef := by simp [List.getElem?_append_left h1]
    have e2 : (qs ++ [p, r]).getD j [] = qs.getD j [] := by simp [List.getElem?_append_left (h.len ▸ h1)]
    rw [e1, e2]
    exact (h.vals j h1).later hk
  · have hj2 : j = xs.length ∨ j = xs.length + 1 := by simp at hj; omega
    rcases hj2 with rfl | rfl
    · have e1 : (xs ++ [y, z]).getD xs.length undef = y := by simp
      have e2 : (qs ++ [p, r]).getD xs.length [] = p := by rw [h.len]; simp
      rw [e1, e2]
      exact hy.later hk
    · have e1 : (xs ++ [y, z]).getD (xs.length + 1) undef = z := by simp
      have e2 : (qs ++ [p, r]).getD (xs.length + 1) [] = r := by rw [h.len]; simp
      rw [e1, e2]
      exact hz.later hk
theorem FrS.parts {w W : World} {cap : Nat} {xs : List Value} {qs : List (List UInt8)} (h : FrS w cap xs qs W) : Parts W (.slice (some ⟨w.heap.size, 0, none⟩) xs.length cap) qs :=
  own_parts h.own ⟨h.len, fun j hj => (h.vals j hj).1⟩
end Go.Proofs.YtaoekfomffebhaaDoor
namespace Go.Proofs.YtaoekfomffebhaaDoor
open Go Go.ChangeShapes Go.WideShapes Go.ChangeAt Go.RowKit
/-- A packet's tag. -/
def tagK (key : List UInt8) (x : Pk) : List UInt8 := hmac key (hdB x)
theorem tagK_length (key : List UInt8) (x : Pk) : (tagK key x).length = 32 := hmac_length _ _
theorem zero32P : ∀ W : World, (zeroValue 27).run Tryd.prog W = .ok (.agg (u8s z32P)) W := fun W => by rw [z32_is]; kernel_rfl
set_option maxRecDepth 100000 in
set_option maxHeartbeats 4000000 in
theorem rtag14 (tbl : List Value) (htb : u32s (kTab ++ hTab) = tbl.toArray) (key : List UInt8) (x : Pk) (vk v : Value) (w : World) (hk : Bytes w vk key) (hkl : key.length ≤ 1000000) (ht : x.t.length = 32) (hb : Bytes w v x.b) (hc : chkP x = 0) : Calls Tryd.prog 13 #[.agg tbl.toArray, vk, pkV x v] w fun e w' => e = .returned (.agg (u8s (tagK key x))) ∧ Below w.heap.size w w' := by
  obtain ⟨a0, c0, rfl, -, -⟩ := bytes_form hb
  obtain ⟨z1, hz1⟩ : ∃ z, u8s z32P = z := ⟨_, rfl⟩
  have hz1v : ∀ W : World, (zeroValue 27).run Tryd.prog W = .ok (.agg z1) W := fun W => by rw [← hz1]; exact zero32P W
  have HTI : Bx ((Tryd.prog.info? 45).map (·.size) = some tbl.length) := Bx.mk (tbl_size3 htb)
  obtain ⟨B, hB⟩ : ∃ B, w.heap.size = B := ⟨_, rfl⟩
  have HHd : Bx (∀ W, Below B w W → Calls Tryd.prog 36 #[pkV x (.slice a0 x.b.length c0)] W fun e w' => ∃ u, e = .returned u ∧ OwnB w' W.heap.size u (hdB x) ∧ Below W.heap.size W w') := Bx.mk fun W h => rhead14 x _ W ht (hb.old hB h) hc
  have HTg : Bx (∀ W u, Below B w W → Bytes W u (hdB x) → Calls Tryd.prog 35 #[.agg tbl.toArray, vk, u] W fun e w' => e = .returned (.agg (u8s (tagK key x))) ∧ Below W.heap.size W w') := Bx.mk fun W u h hu => rtag_any tbl htb key (hdB x) vk u W (hk.old hB h) hu hkl (by rw [hdB_length]; have := (chkP_ok hc).2.2.2.2.1; omega)
  have HSL := Bx.mk (tagK_length key x)
  have HI : Bx ((Tryd.prog.info? 27).map (·.size) = some (u8s (tagK key x)).size ∧ (u8s (tagK key x)).size = z1.size) := Bx.mk ⟨by rw [u8s_size, HSL.out]; kernel_rfl, by rw [← hz1, u8s_size, u8s_size, HSL.out]; rfl⟩
  have HII : Bx ((Tryd.prog.info? 29).map (·.size) = some (pkL x (.slice a0 x.b.length c0)).length) := Bx.mk (pk_infoR x (.slice a0 x.b.length c0) ht)
  have H0 := Bx.mk ((((KP.start w B hB).new (.cells tbl.toArray 45)).new (.cells (pkC x (.slice a0 x.b.length c0)) 29)).new (.cells z1 27))
  rw [alloc_sizeP, alloc_sizeP, hB] at H0
  obtain ⟨tk, htk⟩ : ∃ tk, pkL x (.slice a0 x.b.length c0) = tk := ⟨_, rfl⟩
  unfold pkV pkC at HHd
  unfold pkV
  unfold pkC at H0 ⊢
  rw [htk] at HHd HII H0 ⊢
  generalize tagK key x = sk at *
  generalize hdB x = hd at *
  obtain ⟨ak, nk, ck, rfl⟩ : ∃ a n c, vk = .slice a n c := by
    obtain ⟨a, c, h, -⟩ := bytes_form hk
    exact ⟨a, _, c, h⟩
  rw [hB]
  clear hz1 htk hk hkl hb hc ht htb
  go_enter Tryd.func13, Tryd.ntmps13
  go_upto_region 1 with fail
  generalize ((w.alloc (.cells tbl.toArray 45)).alloc (.cells tk.toArray 29)).alloc (.cells z1 27) = w0 at *
  have R0 := Bx.mk (And.intro (H0.out.later (Below.refl _ _).drew) True.intro)
  clear H0 hz1v
  refine wp_region_noPanic ?_
  refine wp_region_held_drew (S := fun W => W.rangeAt B 0 tbl ∧ W.rangeAt (B + 1) 0 tk) (by kernel_rfl) (⟨row_rngP (R0.out.1.rows _ (.tail _ (.tail _ (.head _)))), row_rngP (R0.out.1.rows _ (.tail _ (.head _)))⟩) (fun hHeld => ?_)
  generalize w0.drew = W0 at *
  refine takeL 0 rfl (by kernel_rfl) (by kernel_rfl) (by kernel_rfl) (fun _ _ _ h => h) (yieldsIf_load_mid (by rfl) _ _ rfl _ _ rfl _ _ (fun w hSw => hSw.1) Tryd.underlying45 rfl HTI.out) hHeld ?_
  try simp only [Act.put, List.setIfInBounds_toArray, List.set_cons_zero, List.set_cons_succ]
  refine takeL 1 (v := ?_) rfl (by kernel_rfl) (by kernel_rfl) (by kernel_rfl) (fun _ _ _ h => h) (Or.inl ⟨by rfl, ?_⟩) hHeld ?_
  rotate_left 1
  · (intro w hSw; go_simp; try with_reducible rfl)
  try simp only [Act.put, List.setIfInBounds_toArray, List.set_cons_zero, List.set_cons_succ]
  refine takeL 2 rfl (by kernel_rfl) (by kernel_rfl) (by kernel_rfl) (fun _ _ _ h => h) (yieldsIf_load_mid (by rfl) _ _ rfl _ _ rfl _ _ (fun w hSw => hSw.2) Tryd.underlying29 rfl HII.out) hHeld ?_
  try simp only [Act.put, List.setIfInBounds_toArray, List.set_cons_zero, List.set_cons_succ]
  refine stepL 3 (by kernel_rfl) rfl (fun K hK => ?_)
  go_simp
  refine (HHd.out W0 R0.out.1.below).mono ?_
  rintro e W1 ⟨u1, rfl, ho, hb⟩
  show K _ _
  have R1 := Bx.mk (And.intro (R0.out.1.later hb) ho.bytes)
  obtain ⟨q1, k1, hv⟩ := own_form ho
  subst hv
  clear hb ho R0
  refine hK.out _ _ ⟨row_rngP (R1.out.1.rows _ (.tail _ (.tail _ (.head _)))), row_rngP (R1.out.1.rows _ (.tail _ (.head _)))⟩ (fun hHeld => ?_)
  clear hK K
  try simp only [Act.put, List.setIfInBounds_toArray, List.set_cons_zero, List.set_cons_succ]
  refine stepL 4 (by kernel_rfl) rfl (fun K hK => ?_)
  go_simp
  refine (HTg.out W1 _ R1.out.1.below R1.out.2).mono ?_
  rintro e W2 ⟨rfl, hb⟩
  show K _ _
  have R2 := Bx.mk (And.intro (R1.out.1.later hb) True.intro)
  clear hb R1
  refine hK.out _ _ ⟨row_rngP (R2.out.1.rows _ (.tail _ (.tail _ (.head _)))), row_rngP (R2.out.1.rows _ (.tail _ (.head _)))⟩ (fun hHeld => ?_)
  clear hK K
  try simp only [Act.put, List.setIfInBounds_toArray, List.set_cons_zero, List.set_cons_succ]
  refine stepL 5 (by kernel_rfl) rfl (fun K hK => ?_)
  refine step_st rfl 27 _ _ rfl (B + 1 + 1) (u8s sk) (by rfl) (by rfl) (there_row (R2.out.1.rows _ (.head _)) 0 _ (by rw [HI.out.2]; omega)) HI.out.1 (one_u8s _) ?_
  have hr2 := heap_setCells_all (ds := u8s sk) (R2.out.1.rows _ (.head _)) HI.out.2
  have R3 := Bx.mk (And.intro (R2.out.1.set (kb_setCells (b := B + 1 + 1) (u8s sk).toList 0 W2) hr2 (by omega) (by intro y hy; simp at hy; rcases hy with rfl | rfl <;> (simp only; omega))) True.intro)
  clear hr2 R2
  refine hK.out _ _ ⟨row_rngP (R3.out.1.rows _ (.tail _ (.tail _ (.head _)))), row_rngP (R3.out.1.rows _ (.tail _ (.head _)))⟩ (fun hHeld => ?_)
  clear hK K
  try simp only [Act.put, List.setIfInBounds_toArray, List.set_cons_zero, List.set_cons_succ]
  refine wpAnyH_done (by kernel_rfl) ?_ _
  refine NoPanic.normal ?_
  clear hHeld
  try go_wp2
  refine bodyPost_ret (results_cell_row rfl _ _ (B + 1 + 1) _ (u8s sk) _ _ rfl (R3.out.1.rows _ (.head _)) Tryd.underlying27 rfl HI.out.1) rfl ?_
  exact ⟨rfl, R3.out.1.below⟩
end Go.Proofs.YtaoekfomffebhaaDoor
namespace Go.Proofs.YtaoekfomffebhaaDoor
open Go Go.RowKit
set_option maxRecDepth 100000 in
set_option maxHeartbeats 400000 in
theorem copied_any (bs : List UInt8) (v : Value) (w : World) (hv : Bytes w v bs) (hl : bs.length ≤ 140737488355328) :
    Calls Tryd.prog 27 #[v] w fun e w' => ∃ v', e = .returned v' ∧ OwnB w' w.heap.size v' bs ∧ Below w.heap.size w w' := by
  have HV := Bx.mk hv
  have HL := Bx.mk hl
  clear hv hl
  go_enter Tryd.func27, Tryd.ntmps27
  go_wp2_with (refine wpList_apT 71 Tryd.underlying71 rfl _ _ rfl w.heap.size _ [] (by rfl) (OwnB.nil _ _) _ bs (by rfl) HV.out (by have := HL.out; simp; omega) (Nat.le_refl _) ?_; intro v1 w1 h1 g1 _; have H1 : Bx (OwnB w1 w.heap.size v1 bs ∧ Below w.heap.size w w1) := Bx.mk ⟨h1, own_below (OwnB.nil _ _) g1 (Nat.le_refl _)⟩; clear h1 g1)
  go_ret
  exact ⟨v1, rfl, H1.out⟩
/-- A key that has its own bytes, none of it older than base. -/
def KeyO (w : World) (base : Nat) (v : Value) (bs : List UInt8) : Prop :=
  ∃ p s, v = .pointer (some ⟨p, 0, none⟩) ∧ base ≤ p ∧ w.heap[p]? = some (.cells #[s] 74 (0, 0)) ∧ OwnB w base s bs
/-- A key. -/
def IsKey (w : World) (v : Value) (bs : List UInt8) : Prop :=
  ∃ p s, v = .pointer (some ⟨p, 0, none⟩) ∧ w.heap[p]? = some (.cells #[s] 74 (0, 0)) ∧ Bytes w s bs
theorem KeyO.key {w : World} {base : Nat} {v : Value} {bs : List UInt8} (h : KeyO w base v bs) : IsKey w v bs := by
  obtain ⟨p, s, hv, _, hr, ho⟩ := h
  exact ⟨p, s, hv, hr, ho.bytes⟩
theorem KeyO.weak {w : World} {base base' : Nat} {v : Value} {bs : List UInt8} (h : KeyO w base v bs) (hb : base' ≤ base) : KeyO w base' v bs := by
  obtain ⟨p, s, hv, hp, hr, h1, h2⟩ := h
  refine ⟨p, s, hv, by omega, hr, h1, ?_⟩
  rcases h2 with h0 | ⟨g, cap, cur, hv', hb', hg, hr'⟩
  · exact .inl h0
  · exact .inr ⟨g, cap, cur, hv', by omega, hg, hr'⟩
theorem IsKey.later {w w1 : World} {v : Value} {bs : List UInt8} (h : IsKey w v bs) (hb : Below w.heap.size w w1) : IsKey w1 v bs := by
  obtain ⟨p, s, hv, hr, ho⟩ := h
  exact ⟨p, s, hv, by rw [hb.block _ (Array.getElem?_eq_some_iff.1 hr).1]; exact hr, ho.later hb⟩
theorem KeyO.later {w w1 : World} {base : Nat} {v : Value} {bs : List UInt8} (h : KeyO w base v bs) (hb : Below w.heap.size w w1) : KeyO w1 base v bs := by
  obtain ⟨p, s, hv, hp, hr, ho⟩ := h
  exact ⟨p, s, hv, hp, by rw [hb.block _ (Array.getElem?_eq_some_iff.1 hr).1]; exact hr, ho.later hb (fun g hg => (ho.lt g hg).1)⟩
set_option maxRecDepth 100000 in
set_option maxHeartbeats 400000 in
theorem new_any (bs : List UInt8) (v : Value) (w : World) (hv : Bytes w v bs) (hl : bs.length ≤ 140737488355328) :
    Calls Tryd.prog 8 #[v] w fun e w' => ∃ v', e = .returned v' ∧ KeyO w' w.heap.size v' bs ∧ Below w.heap.size w w' := by
  have HV := Bx.mk hv
  have HL := Bx.mk hl
  obtain ⟨a, cap, rfl, -⟩ := hv
  obtain ⟨n, hn⟩ : ∃ n, bs.length = n := ⟨_, rfl⟩
  rw [hn] at HV ⊢
  clear hn hl
  go_enter Tryd.func8, Tryd.ntmps8
  go_wp2_with fail
  refine (copied_any bs _ w HV.out HL.out).mono ?_
  rintro e w1 ⟨v1, rfl, ho, hb⟩
  have H1 := Bx.mk (And.intro ho hb)
  obtain ⟨a1, c1, rfl, -⟩ := ho.bytes
  clear ho hb
  go_wp2
  go_ret
  refine ⟨_, rfl, ⟨_, _, rfl, H1.out.2.size, by rw [hnew _ _ _ rfl], ?_⟩, H1.out.2.alloc H1.out.2.size _⟩
  exact H1.out.1.later (below_a _) (fun g hg => (H1.out.1.lt g hg).1)
end Go.Proofs.YtaoekfomffebhaaDoor
