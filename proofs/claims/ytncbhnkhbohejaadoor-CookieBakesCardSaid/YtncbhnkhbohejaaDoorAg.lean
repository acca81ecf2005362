/-
  The walks of the tags of the document, of derived keys, and of the derived keys of the document.
-/
import Derived.Test.YtncbhnkhbohejaaDoorAf
import Derived.OwnWalk
namespace Go.Proofs.YtncbhnkhbohejaaDoor
open Go Go.RowKit
/-- The places, k of which are filled and turned. -/
def fo (b : UInt8) (l : List UInt8) (k : Nat) : List UInt8 := (turn b l).take k ++ List.replicate (64 - k) 0
theorem fo_length (b : UInt8) (l : List UInt8) (k : Nat) (hl : l.length = 64) (hk : k ≤ 64) : (fo b l k).length = 64 := by
  unfold fo
  rw [List.length_append, List.length_take, List.length_replicate, turn_length, hl]
  omega
theorem fo_get (b : UInt8) (l : List UInt8) (k : Nat) (hl : l.length = 64) (hk : k < 64) : (fo b l k).getD k 0 = 0 := by
  unfold fo
  have h : ((turn b l).take k).length = k := by rw [List.length_take, turn_length]; omega
  rw [List.getD_eq_getElem?_getD, List.getElem?_append_right (by omega), h, Nat.sub_self, List.getElem?_replicate, if_pos (by omega)]
  rfl
theorem fo_succ (b : UInt8) (l : List UInt8) (k : Nat) (hl : l.length = 64) (hk : k < 64) : (fo b l k).set k (l.getD k 0 ^^^ b) = fo b l (k + 1) := by
  unfold fo
  have h : ((turn b l).take k).length = k := by rw [List.length_take, turn_length]; omega
  have hk' : k < (turn b l).length := by rw [turn_length]; omega
  rw [show 64 - k = (64 - (k + 1)) + 1 by omega, List.replicate_succ, List.set_append_right _ _ (by omega), h, Nat.sub_self, List.set_cons_zero, List.take_succ_eq_append_getElem hk', List.append_assoc]
  congr 1
  show _ = (turn b l)[k] :: List.replicate (64 - (k + 1)) 0
  congr 1
  have h2 : k < l.length := by omega
  simp [turn, h2]
theorem fo_all (b : UInt8) (l : List UInt8) (hl : l.length = 64) : fo b l 64 = turn b l := by
  unfold fo
  rw [List.take_of_length_le (by rw [turn_length]; omega)]
  simp
theorem fillK_get (k : List UInt8) (i : Nat) (_hk : k.length ≤ 64) (_hi : i < 64) : (fillK k).getD i 0 = if i < k.length then k.getD i 0 else 0 := by
  unfold fillK
  by_cases h : i < k.length
  · rw [if_pos h, List.getD_eq_getElem?_getD, List.getElem?_append_left h, ← List.getD_eq_getElem?_getD]
  · rw [if_neg h, List.getD_eq_getElem?_getD, List.getElem?_append_right (by omega), List.getElem?_replicate]
    split <;> rfl
theorem uint8_xor_zero (b : UInt8) : (0 : UInt8) ^^^ b = b := by simp
/-- The document's table in its own block. -/
structure RT (w : World) (tbl : List Value) (W : World) : Prop where
  below : Below w.heap.size w W
  size : w.heap.size < W.heap.size
  row : W.heap[w.heap.size]? = some (.cells tbl.toArray 41 (0, 0))
theorem RT.later {w W W1 : World} {tbl : List Value} (h : RT w tbl W) (hb : Below W.heap.size W W1) : RT w tbl W1 :=
  ⟨h.below.trans (hb.mono h.below.size), Nat.lt_of_lt_of_le h.size hb.size, by rw [hb.block _ h.size]; exact h.row⟩
set_option maxRecDepth 100000 in
theorem open43 {a : Act} (h : Fr 43 a) : ∃ x : Nat → Value, a = ⟨List.toArray (x 0 :: x 1 :: x 2 :: x 3 :: x 4 :: x 5 :: x 6 :: x 7 :: x 8 :: x 9 :: x 10 :: x 11 :: x 12 :: x 13 :: x 14 :: x 15 :: x 16 :: x 17 :: x 18 :: x 19 :: x 20 :: x 21 :: x 22 :: x 23 :: x 24 :: x 25 :: x 26 :: x 27 :: x 28 :: x 29 :: x 30 :: x 31 :: x 32 :: x 33 :: x 34 :: x 35 :: x 36 :: x 37 :: x 38 :: x 39 :: x 40 :: x 41 :: x 42 :: []), []⟩ ∧ ∀ i, a.eval (.tmp i) = x i := ⟨fun i => a.tmps.getD i undef, h.form, fun _ => rfl⟩
/-- At the head of each byte. -/
structure IFl (va : Value) (b : UInt8) (M : Nat) (W0 : World) (ks : List UInt8) (k : Nat) (a : Act) (wr : World) : Prop where
  fr : Fr 43 a
  s1 : a.eval (.tmp 1) = va
  s2 : a.eval (.tmp 2) = .int .u8 (ub b)
  s8 : a.eval (.tmp 8) = .slice (some ⟨M, 0, none⟩) 64 64
  s9 : a.eval (.tmp 9) = .int .i64 (k : Int)
  row : wr.heap[M]? = some (.cells (u8s (fo b (fillK ks) k)) 5 (0, 0))
  kept : W0.grownBy wr (some M)
set_option maxRecDepth 100000 in
set_option maxHeartbeats 1000000 in
theorem roundFl (ad : Option Addr) (n cap : Nat) (b : UInt8) (M : Nat) (W0 : World) (ks : List UInt8) (Q : Exit → Act → World → Prop) (hb : BytesAt W0 M (.slice ad n cap) ks) (hn : ks.length = n) (hn64 : n ≤ 64)
    (k : Nat) (hk : k < 64) (a : Act) (wr : World) (h : IFl (.slice ad n cap) b M W0 ks k a wr) :
    Code.wp Tryd.prog (loopAt Tryd.f43.body 0) (Exit.then (fun a' w' => IFl (.slice ad n cap) b M W0 ks (k + 1) a' w') Q) a wr := by
  have hfl := fillK_length ks (by omega)
  have c1 : wr.cell? ⟨M, k, none⟩ = some (.int .u8 (ub ((fo b (fillK ks) k).getD k 0))) := by rw [cell_of_row _ _ _ _ _ _ h.row]; exact u8s_get _ _ (by rw [fo_length _ _ _ hfl (by omega)]; exact hk)
  rw [fo_get b _ k hfl hk] at c1
  have f1 := frozen_of_row wr M k _ _ h.row
  have HS : Bx (∀ y, ((wr.setCell ⟨M, k, none⟩ (.int .u8 (ub y))).setCell ⟨M, k, none⟩ (.int .u8 (ub ((fillK ks).getD k 0 ^^^ b)))).heap[M]? = some (.cells (u8s (fo b (fillK ks) (k + 1))) 5 (0, 0))) := Bx.mk (fun y => by
    rw [heap_setCell_same _ _ _ _ _ _ (heap_setCell_same wr _ _ _ _ _ h.row), u8s_set, u8s_set, List.set_set, fo_succ b _ k hfl hk])
  have HS0 : Bx ((wr.setCell ⟨M, k, none⟩ (.int .u8 (ub ((fillK ks).getD k 0 ^^^ b)))).heap[M]? = some (.cells (u8s (fo b (fillK ks) (k + 1))) 5 (0, 0))) := Bx.mk (by
    rw [heap_setCell_same wr _ _ _ _ _ h.row, u8s_set, fo_succ b _ k hfl hk])
  have hget := fillK_get ks k (by omega) hk
  have hrow := h.row
  have hfo := fo_length b (fillK ks) k hfl (by omega)
  have HK := Bx.mk h.kept
  have hk1 : (k : Int) < 64 := by omega
  have hb2 := hb.later h.kept
  obtain ⟨x, rfl, hx⟩ := open43 h.fr
  have e1 := (hx 1).symm.trans h.s1
  have e2 := (hx 2).symm.trans h.s2
  have e8 := (hx 8).symm.trans h.s8
  have e9 := (hx 9).symm.trans h.s9
  clear h hx
  rw [e1, e2, e8, e9]
  clear e1 e2 e8 e9
  by_cases hkn : k < n
  · rw [if_pos (by omega)] at hget
    rw [hget] at HS
    obtain ⟨a', cap', hv', -, hr'⟩ := hb2
    injection hv' with q1 q2 q3
    obtain ⟨g, o, hne, ha, hcell⟩ := hr' (by omega)
    subst q1
    subst ha
    have c2 := hcell k (by omega)
    generalize ks.getD k 0 = y at *
    clear HS0 hget hcell hr' q2 q3 hb hfl
    have t1 : (k : Int) < (n : Int) := by omega
    have c3 : (wr.setCell ⟨M, k, none⟩ (.int .u8 (ub y))).cell? ⟨M, k, none⟩ = some (.int .u8 (ub y)) := by
      rw [cell_of_row _ _ _ _ _ _ (heap_setCell_same wr _ _ _ _ _ hrow)]
      exact by rw [u8s_set, u8s_get _ _ (by rw [List.length_set, hfo]; exact hk)]; simp [hfo, hk]
    clear hrow hfo
    have f3 : (wr.setCell ⟨M, k, none⟩ (.int .u8 (ub y))).frozen? ⟨M, k, none⟩ = false := by simpa using f1
    conv => arg 2; whnf
    go_wp2
    exact ⟨⟨rfl, rfl⟩, rfl, rfl, rfl, by go_num, by first | (rw [ub_xor]; exact HS.out y) | (rw [ub_xor, ub_mod]; exact HS.out y), kb_trans (kb_trans HK.out (kb_setCell _ _ _)) (kb_setCell _ _ _)⟩
  · rw [if_neg (by omega)] at hget
    rw [hget] at HS0
    clear HS hget hb2 hb hfl hrow hfo
    have t1 : ¬ (k : Int) < (n : Int) := by omega
    have z0 : ub 0 = 0 := rfl
    rw [z0] at c1
    have HX : Bx (bits BinOp.xor IntKind.u8 0 (ub b) = ub (0 ^^^ b)) := Bx.mk (by rw [← ub_xor]; rfl)
    conv => arg 2; whnf
    go_wp2
    exact ⟨⟨rfl, rfl⟩, rfl, rfl, rfl, by go_num, by first | (rw [HX.out]; exact HS0.out) | (rw [HX.out, ub_mod]; exact HS0.out) | (rw [uint8_xor_zero] at HS0; exact HS0.out), kb_trans HK.out (kb_setCell _ _ _)⟩
set_option maxRecDepth 100000 in
theorem lastFl (va : Value) (b : UInt8) (M : Nat) (W0 : World) (ks : List UInt8) (Q : Exit → Act → World → Prop) (N : Act → World → Prop)
    (hq : ∀ a' w', IFl va b M W0 ks 64 a' w' → Q (.exit 0) a' w') (a : Act) (wr : World) (h : IFl va b M W0 ks 64 a wr) : Code.wp Tryd.prog (loopAt Tryd.f43.body 0) (Exit.then N Q) a wr := by
  have HR := Bx.mk h.row
  have HK := Bx.mk h.kept
  have HQ := Bx.mk hq
  clear hq
  obtain ⟨x, rfl, hx⟩ := open43 h.fr
  have e1 := (hx 1).symm.trans h.s1
  have e2 := (hx 2).symm.trans h.s2
  have e8 := (hx 8).symm.trans h.s8
  have e9 : x 9 = .int .i64 64 := (hx 9).symm.trans h.s9
  clear h hx
  rw [e1, e2, e8, e9]
  clear e1 e2 e8 e9
  conv => arg 2; whnf
  go_wp2
  exact HQ.out _ _ ⟨⟨rfl, rfl⟩, rfl, rfl, rfl, rfl, HR.out, HK.out⟩
theorem loopFl (ad : Option Addr) (n cap : Nat) (b : UInt8) (M : Nat) (W0 : World) (ks : List UInt8) (Q : Exit → Act → World → Prop) (hb : BytesAt W0 M (.slice ad n cap) ks) (hn : ks.length = n) (hn64 : n ≤ 64)
    (a : Act) (wr : World) (h : IFl (.slice ad n cap) b M W0 ks 0 a wr) (hq : ∀ a' w', IFl (.slice ad n cap) b M W0 ks 64 a' w' → Q (.exit 0) a' w') :
    Code.wp Tryd.prog (.loop (loopAt Tryd.f43.body 0)) Q a wr :=
  wp_count 64 (fun k => IFl (.slice ad n cap) b M W0 ks k) 0 (by omega) h (fun k a w hlt hI => roundFl ad n cap b M W0 ks Q hb hn hn64 k hlt a w hI) (fun a w hI => lastFl _ b M W0 ks Q _ hq a w hI)
theorem made64 : (madeCells (Value.int .u8 0).cells (64 * 1)).toList = (u8s (List.replicate 64 0)).toList := by kernel_rfl
theorem tbl_size2 {tbl : List Value} (h : u32s (kTab ++ hTab) = tbl.toArray) : (Tryd.prog.info? 41).map (·.size) = some tbl.toArray.size := by
  have h3 : (Tryd.prog.info? 41).map (·.size) = some 72 := by kernel_rfl
  have h2 : tbl.toArray.size = 72 := by rw [← h, u32s_size]; rfl
  rw [h2]
  exact h3
/-- What filled hands back. -/
def FilP (w : World) (b : UInt8) (key : List UInt8) (e : Ending) (w' : World) : Prop := ∃ M, e = .returned (.slice (some ⟨M, 0, none⟩) 64 64) ∧ OwnB w' w.heap.size (.slice (some ⟨M, 0, none⟩) 64 64) (turn b (keyB key)) ∧ Below w.heap.size w w'
set_option maxRecDepth 100000 in
set_option maxHeartbeats 1000000 in
theorem rfilled_any (tbl : List Value) (htb : u32s (kTab ++ hTab) = tbl.toArray) (key : List UInt8) (b : UInt8) (v : Value) (w : World) (hv : Bytes w v key) (hl : key.length ≤ 1000000) :
    Calls Tryd.prog 43 #[.agg tbl.toArray, v, .int .u8 (ub b)] w (FilP w b key) := by
  have HV := Bx.mk hv
  have HTB := Bx.mk htb
  obtain ⟨a, cap, rfl, -⟩ := hv
  obtain ⟨n, hn⟩ : ∃ n, key.length = n := ⟨_, rfl⟩
  have HN := Bx.mk hn
  rw [hn] at HV hl ⊢
  have hn1 : (n : Int) ≤ 1000000 := by omega
  clear hn htb
  have HT0 : Bx (RT w tbl (w.alloc (.cells tbl.toArray 41))) := Bx.mk ⟨below_a _, by simp, hnew _ _ _ rfl⟩
  obtain ⟨i0, hi0, hz0, hz1, hz2⟩ := info_parts (P := Tryd.prog) (e := 5) (z := .int .u8 0) (size := 1) (bytes := 1) (by kernel_rfl)
  go_enter Tryd.func43, Tryd.ntmps43
  by_cases hlt : 64 < n
  · have t1 : (64 : Int) < (n : Int) := by omega
    have HIT := Bx.mk (tbl_size2 HTB.out)
    go_upto_region 2 with (fail)
    have HV2 : Bx (Bytes (w.alloc (.cells tbl.toArray 41)) (.slice a n cap) key) := Bx.mk (HV.out.later (below_a _))
    generalize w.alloc (.cells tbl.toArray 41) = w1 at *
    go_wp2_with (refine wpList_load_row rfl 41 _ rfl w.heap.size (by rfl) _ _ _ _ HT0.out.row Tryd.underlying41 rfl HIT.out ?_)
    have HR : Bx (Calls Tryd.prog 42 #[.agg tbl.toArray, .slice a n cap] w1 fun e w' => e = .returned (.agg (u8s (sha key))) ∧ Below w1.heap.size w1 w') := Bx.mk (by rw [← HTB.out]; exact rsum_any key _ w1 HV2.out (by rw [HN.out]; omega))
    refine HR.out.mono ?_
    rintro e w2 ⟨rfl, hb2⟩
    have H2 : Bx (RT w tbl w2) := Bx.mk (HT0.out.later hb2)
    clear hb2 HR
    have HSL : Bx ((sha key).length = 32) := Bx.mk (sha_length _)
    have HKs : Bx (fillK (sha key) = keyB key) := Bx.mk (by unfold keyB shortK; rw [if_pos (by rw [HN.out]; exact hlt)])
    generalize sha key = sk at *
    have HI3 : Bx ((Tryd.prog.info? 70).map (·.size) = some (u8s sk).size) := Bx.mk (by rw [u8s_size, HSL.out]; kernel_rfl)
    have HZ3 : Bx ((u8s sk).size = (u8s (List.replicate 32 0)).size) := Bx.mk (by rw [u8s_size, u8s_size, HSL.out]; rfl)
    go_upto_region 4 with (refine wpList_store_var rfl 70 _ _ rfl w2 _ _ rfl (by rfl) (u8s sk) (by rfl) HZ3.out HI3.out (one_u8s _) ?_; intro w3 hb3 hr3 hl3)
    have HX0 : Bx (Below w.heap.size w w3 ∧ Bytes w3 (.slice (some ⟨w2.heap.size, 0, none⟩) 32 32) sk ∧ sk.length = 32 ∧ fillK sk = keyB key) := Bx.mk ⟨(H2.out.later hb3).below, row_bytes hr3 HSL.out, HSL.out, HKs.out⟩
    have HN64 : Bx (32 ≤ 64) := Bx.mk (by omega)
    clear hb3 hr3 hl3 H2 HV HV2 HSL HKs HI3 HZ3 HT0 HIT
    generalize w2.heap.size = D at *
    have HX : Bx (Below w.heap.size w w3 ∧ Bytes w3 (.slice (some ⟨D, 0, none⟩) 32 32) sk ∧ sk.length = 32 ∧ fillK sk = keyB key) := HX0
    clear HX0
    go_wp2_with (refine wpList_make_full w3 rfl _ _ 22 rfl w.heap.size 5 i0 _ 1 Tryd.underlying22 hi0 hz0 hz1 .i64 .i64 64 64 64 (by rfl) (by rfl) rfl rfl (by rw [hz2]; omega) (by unfold maxLen; omega) HX.out.1.size ?_; intro w5 ho5 hg5)
    have H5 : Bx (w5.heap[w3.heap.size]? = some (.cells (u8s (List.replicate 64 0)) 5 (0, 0)) ∧ Below w3.heap.size w3 w5) := Bx.mk ⟨own_row (base := w.heap.size) (by have h := ho5; rw [made64] at h; exact h), ⟨hg5.os, hg5.tape, hg5.output, hg5.size, fun i hi => hg5.block i hi (by intro e; cases e)⟩⟩
    clear ho5 hg5
    have HBA : Bx (BytesAt w5 w3.heap.size (.slice (some ⟨D, 0, none⟩) 32 32) sk) := Bx.mk (HX.out.2.1.apart H5.out.2 _ (Nat.le_refl _))
    refine loopFl (some ⟨D, 0, none⟩) 32 32 b w3.heap.size w5 sk _ HBA.out HX.out.2.2.1 HN64.out _ _ ⟨⟨rfl, rfl⟩, rfl, rfl, rfl, rfl, by rw [show fo b (fillK sk) 0 = List.replicate 64 0 from rfl]; exact H5.out.1, kb_refl _ _⟩ ?_
    intro a' w6 hI
    have H6 : Bx (OwnB w6 w.heap.size (.slice (some ⟨w3.heap.size, 0, none⟩) 64 64) (turn b (keyB key)) ∧ Below w.heap.size w w6) := Bx.mk ⟨row_own (by have h := hI.row; rw [fo_all b _ (fillK_length _ (by have := HX.out.2.2.1; have := HN64.out; omega)), HX.out.2.2.2] at h; exact h) (by rw [turn_length, keyB_length]) HX.out.1.size (by omega), below_kb (HX.out.1.trans (H5.out.2.mono HX.out.1.size)) (Nat.le_trans HX.out.1.size H5.out.2.size) hI.kept HX.out.1.size⟩
    obtain ⟨x, rfl, hx⟩ := open43 hI.fr
    have e8 := (hx 8).symm.trans hI.s8
    clear hI hx
    rw [e8]
    clear e8
    go_wp2
    go_ret
    exact ⟨_, rfl, H6.out⟩
  · have t1 : ¬ (64 : Int) < (n : Int) := by omega
    go_upto_region 4 with (fail)
    have HX0 : Bx (Below w.heap.size w (w.alloc (.cells tbl.toArray 41)) ∧ Bytes (w.alloc (.cells tbl.toArray 41)) (.slice a n cap) key ∧ key.length = n ∧ fillK key = keyB key) := Bx.mk ⟨below_a _, HV.out.later (below_a _), HN.out, by unfold keyB shortK; rw [if_neg (by rw [HN.out]; exact hlt)]⟩
    generalize w.alloc (.cells tbl.toArray 41) = w3 at *
    have HN64 : Bx (n ≤ 64) := Bx.mk (by omega)
    clear HV HT0
    have HX : Bx (Below w.heap.size w w3 ∧ Bytes w3 (.slice a n cap) key ∧ key.length = n ∧ fillK key = keyB key) := HX0
    clear HX0
    go_wp2_with (refine wpList_make_full w3 rfl _ _ 22 rfl w.heap.size 5 i0 _ 1 Tryd.underlying22 hi0 hz0 hz1 .i64 .i64 64 64 64 (by rfl) (by rfl) rfl rfl (by rw [hz2]; omega) (by unfold maxLen; omega) HX.out.1.size ?_; intro w5 ho5 hg5)
    have H5 : Bx (w5.heap[w3.heap.size]? = some (.cells (u8s (List.replicate 64 0)) 5 (0, 0)) ∧ Below w3.heap.size w3 w5) := Bx.mk ⟨own_row (base := w.heap.size) (by have h := ho5; rw [made64] at h; exact h), ⟨hg5.os, hg5.tape, hg5.output, hg5.size, fun i hi => hg5.block i hi (by intro e; cases e)⟩⟩
    clear ho5 hg5
    have HBA : Bx (BytesAt w5 w3.heap.size (.slice a n cap) key) := Bx.mk (HX.out.2.1.apart H5.out.2 _ (Nat.le_refl _))
    refine loopFl a n cap b w3.heap.size w5 key _ HBA.out HX.out.2.2.1 HN64.out _ _ ⟨⟨rfl, rfl⟩, rfl, rfl, rfl, rfl, by rw [show fo b (fillK key) 0 = List.replicate 64 0 from rfl]; exact H5.out.1, kb_refl _ _⟩ ?_
    intro a' w6 hI
    have H6 : Bx (OwnB w6 w.heap.size (.slice (some ⟨w3.heap.size, 0, none⟩) 64 64) (turn b (keyB key)) ∧ Below w.heap.size w w6) := Bx.mk ⟨row_own (by have h := hI.row; rw [fo_all b _ (fillK_length _ (by have := HX.out.2.2.1; have := HN64.out; omega)), HX.out.2.2.2] at h; exact h) (by rw [turn_length, keyB_length]) HX.out.1.size (by omega), below_kb (HX.out.1.trans (H5.out.2.mono HX.out.1.size)) (Nat.le_trans HX.out.1.size H5.out.2.size) hI.kept HX.out.1.size⟩
    obtain ⟨x, rfl, hx⟩ := open43 hI.fr
    have e8 := (hx 8).symm.trans hI.s8
    clear hI hx
    rw [e8]
    clear e8
    go_wp2
    go_ret
    exact ⟨_, rfl, H6.out⟩
end Go.Proofs.YtncbhnkhbohejaaDoor
namespace Go.Proofs.YtncbhnkhbohejaaDoor
open Go Go.RowKit
theorem consL {P : Program} {ops : Array Oper} {Q : Exit → Act → World → Prop} {md : Region.Mode} {S : World → Prop} {fuel : Nat} {listed : Array Bool} {a : Act} {w : World} (i : Nat) {o : Oper} {rs : List Nat} (ho : ops.toList[i]? = some o)
    (h : ∀ K' : Act → World → Prop, Shut (∀ a w, S w → (S w → wpAnyH P md ops Q S fuel (listed.setIfInBounds i true) a w) → K' a w) → if Region.wanted o (yielded ops a.tmps) = true then Oper.wp P o a w K' Q else K' (a.put o.dst undef) w)
    (hs : AllReadyH P md ops Q S fuel listed a w rs) : AllReadyH P md ops Q S fuel listed a w (i :: rs) := AllReadyH.cons (by rw [← Array.getElem?_toList]; exact ho) h hs
/-- Bytes that grow lie in another block than an array. -/
theorem own_arr {w : World} {base D : Nat} {v : Value} {l : List UInt8} {c : Array Value} (h : OwnB w base v l) (hD : w.heap[D]? = some (.cells c 70 (0, 0))) : some D ≠ v.ownBlock := by
  intro e
  rcases h.2 with ⟨rfl, _⟩ | ⟨g, cap, cur, rfl, _, hh, _⟩
  · cases e
  · injection e with e
    simp only at e
    subst e
    rw [hD] at hh
    injection hh with e
    injection e with _ e2
    exact absurd e2 (by decide)
set_option maxRecDepth 100000 in
theorem open22 {a : Act} (h : Fr 22 a) : ∃ x : Nat → Value, a = ⟨List.toArray (x 0 :: x 1 :: x 2 :: x 3 :: x 4 :: x 5 :: x 6 :: x 7 :: x 8 :: x 9 :: x 10 :: x 11 :: x 12 :: x 13 :: x 14 :: x 15 :: x 16 :: x 17 :: x 18 :: x 19 :: x 20 :: x 21 :: []), []⟩ ∧ ∀ i, a.eval (.tmp i) = x i := ⟨fun i => a.tmps.getD i undef, h.form, fun _ => rfl⟩
structure IT (vk vb : Value) (T R : Nat) (a : Act) : Prop where
  fr : Fr 22 a
  s1 : a.eval (.tmp 1) = vk
  s2 : a.eval (.tmp 2) = vb
  s3 : a.eval (.tmp 3) = .pointer (some ⟨T, 0, none⟩)
  s6 : a.eval (.tmp 6) = .pointer (some ⟨R, 0, none⟩)
/-- What stays while a tag is made. -/
structure TS (w2 : World) (T R : Nat) (tbl : List Value) (vk vb : Value) (key bb : List UInt8) : Prop where
  row : w2.heap[T]? = some (.cells tbl.toArray 41 (0, 0))
  res : w2.heap[R]? = some (.cells (u8s (List.replicate 32 0)) 70 (0, 0))
  ne : T ≠ R
  hkey : Bytes w2 vk key
  hbytes : Bytes w2 vb bb
  kl : key.length ≤ 1000000
  bl : bb.length ≤ 1000000
  is : u32s (kTab ++ hTab) = tbl.toArray
theorem TS.rng {w2 W : World} {T R : Nat} {tbl : List Value} {vk vb : Value} {key bb : List UInt8} (h : TS w2 T R tbl vk vb key bb) (hb : Below w2.heap.size w2 W) : W.rangeAt T 0 tbl := fun j v hv => by
  rw [hb.cell (p := ⟨T, 0 + j, none⟩) (Array.getElem?_eq_some_iff.1 h.row).1, cell_of_row _ _ _ _ _ _ h.row, Nat.zero_add, ← Array.getElem?_toList]
  exact hv
/-- filled, called where these stay. -/
def FilQ (w2 : World) (l : List UInt8) (W : World) (e : Ending) (W' : World) : Prop := ∃ M, e = .returned (.slice (some ⟨M, 0, none⟩) 64 64) ∧ Bx (OwnB W' w2.heap.size (.slice (some ⟨M, 0, none⟩) 64 64) l ∧ Below W.heap.size W W')
theorem TS.fil {w2 : World} {T R : Nat} {tbl : List Value} {vk vb : Value} {key bb : List UInt8} (st : TS w2 T R tbl vk vb key bb) {W : World} (b : UInt8) (hb : Below w2.heap.size w2 W) : Calls Tryd.prog 43 #[.agg tbl.toArray, vk, .int .u8 (ub b)] W (FilQ w2 (turn b (keyB key)) W) :=
  (rfilled_any tbl st.is key b vk W (st.hkey.later hb) st.kl).mono fun _ _ ⟨M, he, ho, hb2⟩ => ⟨M, he, ⟨ho.weak hb.size, hb2⟩⟩
theorem TS.sum {w2 : World} {T R : Nat} {tbl : List Value} {vk vb : Value} {key bb : List UInt8} (st : TS w2 T R tbl vk vb key bb) {W : World} {x : Value} {ps : List UInt8} (hx : Bytes W x ps) (hl : ps.length ≤ 10000000) : Calls Tryd.prog 42 #[.agg tbl.toArray, x] W fun e W' => e = .returned (.agg (vs8 (sha ps)).toArray) ∧ Bx (Below W.heap.size W W') := by
  rw [← st.is, ← u8s_vs]
  exact (rsum_any ps x W hx (by omega)).mono fun _ _ ⟨he, hb⟩ => ⟨he, ⟨hb⟩⟩
theorem tbl_size3 {tbl : List Value} (h : u32s (kTab ++ hTab) = tbl.toArray) : (Tryd.prog.info? 41).map (·.size) = some tbl.length := by
  have h2 := tbl_size2 h
  rw [h2]; simp
theorem one_vs (l : List UInt8) : ((vs8 l).toArray).all (·.oneCell') = true := one_u8s l
set_option maxRecDepth 100000 in
set_option maxHeartbeats 2000000 in
theorem reg1T (w2 : World) (T R : Nat) (tbl : List Value) (vk vb : Value) (key bb : List UInt8) (st : TS w2 T R tbl vk vb key bb) (Q : Exit → Act → World → Prop) (a : Act) (h : IT vk vb T R a)
    (hQ : ∀ a' W' D, IT vk vb T R a' → a'.eval (.tmp 7) = .pointer (some ⟨D, 0, none⟩) → Below w2.heap.size w2 W' → W'.heap[D]? = some (.cells (u8s (sha (turn 54 (keyB key) ++ bb))) 70 (0, 0)) → Q .normal a' W') :
    Code.wp Tryd.prog (regionAt Tryd.f36.body 1) Q a w2 := by
  have HMk : Bx (∀ W, Below w2.heap.size w2 W → W.rangeAt T 0 tbl ∧ Bx (Below w2.heap.size w2 W)) := Bx.mk (fun W hb => ⟨st.rng hb, ⟨hb⟩⟩)
  have HFil : Bx (∀ W, Below w2.heap.size w2 W → Calls Tryd.prog 43 #[.agg tbl.toArray, vk, .int .u8 54] W (FilQ w2 (turn 54 (keyB key)) W)) := Bx.mk (fun W hb => st.fil 54 hb)
  have HSum : Bx (∀ W x, Bytes W x (turn 54 (keyB key) ++ bb) → Calls Tryd.prog 42 #[.agg tbl.toArray, x] W fun e W' => e = .returned (.agg (vs8 (sha (turn 54 (keyB key) ++ bb))).toArray) ∧ Bx (Below W.heap.size W W')) := Bx.mk (fun W x hx => st.sum hx (by have := st.bl; rw [List.length_append, turn_length, keyB_length]; omega))
  have HBb : Bx (∀ W, Below w2.heap.size w2 W → Bytes W vb bb) := Bx.mk (fun W hb => st.hbytes.later hb)
  have HLn : Bx ((turn 54 (keyB key)).length + bb.length ≤ 140737488355328) := Bx.mk (by have := st.bl; rw [turn_length, keyB_length]; omega)
  have HQ := Bx.mk hQ
  have hu32 := Tryd.underlying41
  have hi32 := tbl_size3 st.is
  obtain ⟨z32, hz32⟩ : ∃ z, u8s (List.replicate 32 0) = z := ⟨_, rfl⟩
  have hz32v : ∀ W : World, (zeroValue 70).run Tryd.prog W = .ok (.agg z32) W := fun W => by rw [← hz32, zero32]; kernel_rfl
  have HZ : Bx (z32.size = 32) := Bx.mk (by rw [← hz32, u8s_size]; rfl)
  have HSL : Bx ((vs8 (sha (turn 54 (keyB key) ++ bb))).toArray.size = 32) := Bx.mk (by rw [← u8s_vs, u8s_size, sha_length])
  have HI : Bx ((Tryd.prog.info? 70).map (·.size) = some (vs8 (sha (turn 54 (keyB key) ++ bb))).toArray.size) := Bx.mk (by rw [HSL.out]; kernel_rfl)
  have HB0 : Bx (Below w2.heap.size w2 w2.drew) := Bx.mk (Below.refl _ _).drew
  obtain ⟨x, rfl, hx⟩ := open22 h.fr
  have e1 := (hx 1).symm.trans h.s1
  have e2 := (hx 2).symm.trans h.s2
  have e3 := (hx 3).symm.trans h.s3
  have e6 := (hx 6).symm.trans h.s6
  obtain ⟨ak, ck, hvk, -, -⟩ := bytes_form st.hkey
  obtain ⟨ab, cb, hvb, -, -⟩ := bytes_form st.hbytes
  obtain ⟨nk, hnk⟩ : ∃ n, key.length = n := ⟨_, rfl⟩
  obtain ⟨nb, hnb⟩ : ∃ n, bb.length = n := ⟨_, rfl⟩
  rw [hnk] at hvk
  rw [hnb] at hvb
  clear hnk hnb
  subst hvk
  subst hvb
  clear h hx hQ st hz32
  rw [e1, e2, e3, e6]
  clear e1 e2 e3 e6
  have HMO := Bx.mk (one_vs (sha (turn 54 (keyB key) ++ bb)))
  have HUV : Bx ((vs8 (sha (turn 54 (keyB key) ++ bb))).toArray = u8s (sha (turn 54 (keyB key) ++ bb))) := Bx.mk rfl
  generalize vs8 (sha (turn 54 (keyB key) ++ bb)) = o1 at *
  generalize turn 54 (keyB key) = t54 at *
  conv => arg 2; whnf
  refine wp_region_noPanic ?_
  refine wp_region_held_drew (S := fun W => W.rangeAt T 0 tbl ∧ Bx (Below w2.heap.size w2 W)) (by kernel_rfl) (HMk.out _ HB0.out) (fun hHeld => ?_)
  generalize w2.drew = W0 at *
  refine takeL 0 rfl (by kernel_rfl) (by kernel_rfl) (by kernel_rfl) (fun _ _ _ h => h) (yieldsIf_load_mid (by rfl) _ _ rfl _ _ rfl _ _ (fun w hSw => hSw.1) hu32 rfl hi32) hHeld ?_
  try simp only [Act.put, List.setIfInBounds_toArray, List.set_cons_zero, List.set_cons_succ]
  refine takeL 1 rfl (by kernel_rfl) (by kernel_rfl) (by kernel_rfl) (fun _ _ _ h => h) (yieldsIf_load_mid (by rfl) _ _ rfl _ _ rfl _ _ (fun w hSw => hSw.1) hu32 rfl hi32) hHeld ?_
  try simp only [Act.put, List.setIfInBounds_toArray, List.set_cons_zero, List.set_cons_succ]
  refine takeL 2 (v := ?_) rfl (by kernel_rfl) (by kernel_rfl) (by kernel_rfl) (fun _ _ _ h => h) (Or.inl ⟨by rfl, ?_⟩) hHeld ?_
  rotate_left 1
  · (intro w hSw; go_simp; try with_reducible rfl)
  try simp only [Act.put, List.setIfInBounds_toArray, List.set_cons_zero, List.set_cons_succ]
  refine takeL 4 (v := ?_) rfl (by kernel_rfl) (by kernel_rfl) (by kernel_rfl) (fun _ _ _ h => h) (Or.inl ⟨by rfl, ?_⟩) hHeld ?_
  rotate_left 1
  · (intro w hSw; go_simp; try with_reducible rfl)
  try simp only [Act.put, List.setIfInBounds_toArray, List.set_cons_zero, List.set_cons_succ]
  refine wpAnyH_ready (rs := [3, 7]) (by kernel_rfl) (by simp) ?_
  refine consL 3 rfl (fun K hK => ?_) (consL 7 rfl (fun K hK => ?_) AllReadyH.nil)
  · go_simp
    refine (HFil.out _ HB0.out).mono ?_
    rintro e W4 ⟨M, rfl, h3⟩
    show K _ _
    refine hK.out _ _ (HMk.out _ (HB0.out.trans (h3.out.2.mono HB0.out.size))) (fun hHeld => ?_)
    clear hK K
    try simp only [Act.put, List.setIfInBounds_toArray, List.set_cons_zero, List.set_cons_succ]
    have b4 := Bx.mk (HB0.out.trans (h3.out.2.mono HB0.out.size))
    have hOw := Bx.mk h3.out.1
    refine wpAnyH_ready (rs := [5, 7]) (by kernel_rfl) (by simp) ?_
    refine consL 5 rfl (fun K hK => ?_) (consL 7 rfl (fun K hK => ?_) AllReadyH.nil)
    · refine step_ap rfl _ _ rfl w2.heap.size _ t54 (by rfl) hOw.out _ bb (by rfl) (HBb.out _ b4.out) HLn.out b4.out.size ?_
      intro v5 W5 ho5 hg5 _
      have b5 : Bx (Below w2.heap.size w2 W5) := Bx.mk (b4.out.trans (own_below hOw.out hg5 b4.out.size))
      have hOw := Bx.mk ho5
      refine hK.out _ _ (HMk.out _ b5.out) (fun hHeld => ?_)
      clear hK K
      try simp only [Act.put, List.setIfInBounds_toArray, List.set_cons_zero, List.set_cons_succ]
      clear ho5 hg5
      refine wpAnyH_ready (rs := [6, 7]) (by kernel_rfl) (by simp) ?_
      refine consL 6 rfl (fun K hK => ?_) (consL 7 rfl (fun K hK => ?_) AllReadyH.nil)
      · go_simp
        refine (HSum.out _ _ hOw.out.bytes).mono ?_
        rintro e W6 ⟨rfl, h6⟩
        show K _ _
        refine hK.out _ _ (HMk.out _ (b5.out.trans (h6.out.mono b5.out.size))) (fun hHeld => ?_)
        clear hK K
        try simp only [Act.put, List.setIfInBounds_toArray, List.set_cons_zero, List.set_cons_succ]
        have b6 := Bx.mk (b5.out.trans (h6.out.mono b5.out.size))
        refine stepL 7 (by kernel_rfl) rfl (fun K hK => ?_)
        go_simp
        refine hK.out _ _ (HMk.out _ (b6.out.trans ((below_a _).mono b6.out.size))) (fun hHeld => ?_)
        clear hK K
        try simp only [Act.put, List.setIfInBounds_toArray, List.set_cons_zero, List.set_cons_succ]
        have b7 : Bx (Below w2.heap.size w2 (W6.alloc (.cells z32 70))) := Bx.mk (b6.out.trans ((below_a _).mono b6.out.size))
        have hD : Bx ((W6.alloc (.cells z32 70)).heap[W6.heap.size]? = some (.cells z32 70 (0, 0)) ∧ w2.heap.size ≤ W6.heap.size) := Bx.mk ⟨hnew _ _ _ rfl, b6.out.size⟩
        generalize W6.alloc (.cells z32 70) = W7 at *
        generalize W6.heap.size = D at *
        refine stepL 8 (by kernel_rfl) rfl (fun K hK => ?_)
        have hS8 := Bx.mk (heap_setCells_all hD.out.1 (HSL.out.trans HZ.out.symm))
        have hB8 := Bx.mk (below_setCells hD.out.2 o1 0 _ _ b7.out)
        refine step_st rfl 70 _ _ rfl D o1.toArray (by rfl) (by rfl) (there_row hD.out.1 0 _ (by rw [HSL.out, HZ.out]; omega)) HI.out HMO.out ?_
        refine hK.out _ _ (HMk.out _ hB8.out) (fun hHeld => ?_)
        refine wpAnyH_done (by kernel_rfl) ?_ _
        exact NoPanic.normal (HQ.out _ _ D ⟨⟨rfl, rfl⟩, rfl, rfl, rfl, rfl⟩ rfl hB8.out (by rw [← HUV.out]; exact hS8.out))
      · go_simp
        refine hK.out _ _ (HMk.out _ (b5.out.trans ((below_a _).mono b5.out.size))) (fun hHeld => ?_)
        clear hK K
        try simp only [Act.put, List.setIfInBounds_toArray, List.set_cons_zero, List.set_cons_succ]
        have b6 : Bx (Below w2.heap.size w2 (W5.alloc (.cells z32 70))) := Bx.mk (b5.out.trans ((below_a _).mono b5.out.size))
        have hD : Bx ((W5.alloc (.cells z32 70)).heap[W5.heap.size]? = some (.cells z32 70 (0, 0)) ∧ w2.heap.size ≤ W5.heap.size) := Bx.mk ⟨hnew _ _ _ rfl, b5.out.size⟩
        have hOw := Bx.mk (hOw.out.later (below_a (.cells z32 70)) (fun g hg => (hOw.out.lt g hg).1))
        generalize W5.alloc (.cells z32 70) = W6 at *
        generalize W5.heap.size = D at *
        refine stepL 6 (by kernel_rfl) rfl (fun K hK => ?_)
        go_simp
        refine (HSum.out _ _ hOw.out.bytes).mono ?_
        rintro e W7 ⟨rfl, h6⟩
        show K _ _
        refine hK.out _ _ (HMk.out _ (b6.out.trans (h6.out.mono b6.out.size))) (fun hHeld => ?_)
        clear hK K
        try simp only [Act.put, List.setIfInBounds_toArray, List.set_cons_zero, List.set_cons_succ]
        have b7 := Bx.mk (b6.out.trans (h6.out.mono b6.out.size))
        have hD := Bx.mk (And.intro ((h6.out.block _ (Array.getElem?_eq_some_iff.1 hD.out.1).1).trans hD.out.1) hD.out.2)
        refine stepL 8 (by kernel_rfl) rfl (fun K hK => ?_)
        have hS8 := Bx.mk (heap_setCells_all hD.out.1 (HSL.out.trans HZ.out.symm))
        have hB8 := Bx.mk (below_setCells hD.out.2 o1 0 _ _ b7.out)
        refine step_st rfl 70 _ _ rfl D o1.toArray (by rfl) (by rfl) (there_row hD.out.1 0 _ (by rw [HSL.out, HZ.out]; omega)) HI.out HMO.out ?_
        refine hK.out _ _ (HMk.out _ hB8.out) (fun hHeld => ?_)
        refine wpAnyH_done (by kernel_rfl) ?_ _
        exact NoPanic.normal (HQ.out _ _ D ⟨⟨rfl, rfl⟩, rfl, rfl, rfl, rfl⟩ rfl hB8.out (by rw [← HUV.out]; exact hS8.out))
    · go_simp
      refine hK.out _ _ (HMk.out _ (b4.out.trans ((below_a _).mono b4.out.size))) (fun hHeld => ?_)
      clear hK K
      try simp only [Act.put, List.setIfInBounds_toArray, List.set_cons_zero, List.set_cons_succ]
      have b5 : Bx (Below w2.heap.size w2 (W4.alloc (.cells z32 70))) := Bx.mk (b4.out.trans ((below_a _).mono b4.out.size))
      have hD : Bx ((W4.alloc (.cells z32 70)).heap[W4.heap.size]? = some (.cells z32 70 (0, 0)) ∧ w2.heap.size ≤ W4.heap.size) := Bx.mk ⟨hnew _ _ _ rfl, b4.out.size⟩
      have hOw := Bx.mk (hOw.out.later (below_a (.cells z32 70)) (fun g hg => (hOw.out.lt g hg).1))
      generalize W4.alloc (.cells z32 70) = W5 at *
      generalize W4.heap.size = D at *
      refine stepL 5 (by kernel_rfl) rfl (fun K hK => ?_)
      refine step_ap rfl _ _ rfl w2.heap.size _ t54 (by rfl) hOw.out _ bb (by rfl) (HBb.out _ b5.out) HLn.out b5.out.size ?_
      intro v5 W6 ho5 hg5 _
      have b6 : Bx (Below w2.heap.size w2 W6) := Bx.mk (b5.out.trans (own_below hOw.out hg5 b5.out.size))
      have hD := Bx.mk (And.intro ((hg5.block _ (Array.getElem?_eq_some_iff.1 hD.out.1).1 (own_arr hOw.out hD.out.1)).trans hD.out.1) hD.out.2)
      have hOw := Bx.mk ho5
      refine hK.out _ _ (HMk.out _ b6.out) (fun hHeld => ?_)
      clear hK K
      try simp only [Act.put, List.setIfInBounds_toArray, List.set_cons_zero, List.set_cons_succ]
      clear ho5 hg5
      refine stepL 6 (by kernel_rfl) rfl (fun K hK => ?_)
      go_simp
      refine (HSum.out _ _ hOw.out.bytes).mono ?_
      rintro e W7 ⟨rfl, h6⟩
      show K _ _
      refine hK.out _ _ (HMk.out _ (b6.out.trans (h6.out.mono b6.out.size))) (fun hHeld => ?_)
      clear hK K
      try simp only [Act.put, List.setIfInBounds_toArray, List.set_cons_zero, List.set_cons_succ]
      have b7 := Bx.mk (b6.out.trans (h6.out.mono b6.out.size))
      have hD := Bx.mk (And.intro ((h6.out.block _ (Array.getElem?_eq_some_iff.1 hD.out.1).1).trans hD.out.1) hD.out.2)
      refine stepL 8 (by kernel_rfl) rfl (fun K hK => ?_)
      have hS8 := Bx.mk (heap_setCells_all hD.out.1 (HSL.out.trans HZ.out.symm))
      have hB8 := Bx.mk (below_setCells hD.out.2 o1 0 _ _ b7.out)
      refine step_st rfl 70 _ _ rfl D o1.toArray (by rfl) (by rfl) (there_row hD.out.1 0 _ (by rw [HSL.out, HZ.out]; omega)) HI.out HMO.out ?_
      refine hK.out _ _ (HMk.out _ hB8.out) (fun hHeld => ?_)
      refine wpAnyH_done (by kernel_rfl) ?_ _
      exact NoPanic.normal (HQ.out _ _ D ⟨⟨rfl, rfl⟩, rfl, rfl, rfl, rfl⟩ rfl hB8.out (by rw [← HUV.out]; exact hS8.out))
  · go_simp
    refine hK.out _ _ (HMk.out _ (HB0.out.trans ((below_a _).mono HB0.out.size))) (fun hHeld => ?_)
    clear hK K
    try simp only [Act.put, List.setIfInBounds_toArray, List.set_cons_zero, List.set_cons_succ]
    have b4 : Bx (Below w2.heap.size w2 (W0.alloc (.cells z32 70))) := Bx.mk (HB0.out.trans ((below_a _).mono HB0.out.size))
    have hD : Bx ((W0.alloc (.cells z32 70)).heap[W0.heap.size]? = some (.cells z32 70 (0, 0)) ∧ w2.heap.size ≤ W0.heap.size) := Bx.mk ⟨hnew _ _ _ rfl, HB0.out.size⟩
    generalize W0.alloc (.cells z32 70) = W4 at *
    generalize W0.heap.size = D at *
    refine stepL 3 (by kernel_rfl) rfl (fun K hK => ?_)
    go_simp
    refine (HFil.out _ b4.out).mono ?_
    rintro e W5 ⟨M, rfl, h3⟩
    show K _ _
    refine hK.out _ _ (HMk.out _ (b4.out.trans (h3.out.2.mono b4.out.size))) (fun hHeld => ?_)
    clear hK K
    try simp only [Act.put, List.setIfInBounds_toArray, List.set_cons_zero, List.set_cons_succ]
    have b5 := Bx.mk (b4.out.trans (h3.out.2.mono b4.out.size))
    have hOw := Bx.mk h3.out.1
    have hD := Bx.mk (And.intro ((h3.out.2.block _ (Array.getElem?_eq_some_iff.1 hD.out.1).1).trans hD.out.1) hD.out.2)
    refine stepL 5 (by kernel_rfl) rfl (fun K hK => ?_)
    refine step_ap rfl _ _ rfl w2.heap.size _ t54 (by rfl) hOw.out _ bb (by rfl) (HBb.out _ b5.out) HLn.out b5.out.size ?_
    intro v5 W6 ho5 hg5 _
    have b6 : Bx (Below w2.heap.size w2 W6) := Bx.mk (b5.out.trans (own_below hOw.out hg5 b5.out.size))
    have hD := Bx.mk (And.intro ((hg5.block _ (Array.getElem?_eq_some_iff.1 hD.out.1).1 (own_arr hOw.out hD.out.1)).trans hD.out.1) hD.out.2)
    have hOw := Bx.mk ho5
    refine hK.out _ _ (HMk.out _ b6.out) (fun hHeld => ?_)
    clear hK K
    try simp only [Act.put, List.setIfInBounds_toArray, List.set_cons_zero, List.set_cons_succ]
    clear ho5 hg5
    refine stepL 6 (by kernel_rfl) rfl (fun K hK => ?_)
    go_simp
    refine (HSum.out _ _ hOw.out.bytes).mono ?_
    rintro e W7 ⟨rfl, h6⟩
    show K _ _
    refine hK.out _ _ (HMk.out _ (b6.out.trans (h6.out.mono b6.out.size))) (fun hHeld => ?_)
    clear hK K
    try simp only [Act.put, List.setIfInBounds_toArray, List.set_cons_zero, List.set_cons_succ]
    have b7 := Bx.mk (b6.out.trans (h6.out.mono b6.out.size))
    have hD := Bx.mk (And.intro ((h6.out.block _ (Array.getElem?_eq_some_iff.1 hD.out.1).1).trans hD.out.1) hD.out.2)
    refine stepL 8 (by kernel_rfl) rfl (fun K hK => ?_)
    have hS8 := Bx.mk (heap_setCells_all hD.out.1 (HSL.out.trans HZ.out.symm))
    have hB8 := Bx.mk (below_setCells hD.out.2 o1 0 _ _ b7.out)
    refine step_st rfl 70 _ _ rfl D o1.toArray (by rfl) (by rfl) (there_row hD.out.1 0 _ (by rw [HSL.out, HZ.out]; omega)) HI.out HMO.out ?_
    refine hK.out _ _ (HMk.out _ hB8.out) (fun hHeld => ?_)
    refine wpAnyH_done (by kernel_rfl) ?_ _
    exact NoPanic.normal (HQ.out _ _ D ⟨⟨rfl, rfl⟩, rfl, rfl, rfl, rfl⟩ rfl hB8.out (by rw [← HUV.out]; exact hS8.out))
set_option maxRecDepth 100000 in
set_option maxHeartbeats 2000000 in
theorem rtag_any (tbl : List Value) (htb : u32s (kTab ++ hTab) = tbl.toArray) (key bb : List UInt8) (vk vb : Value) (w : World) (hk : Bytes w vk key) (hb : Bytes w vb bb) (hkl : key.length ≤ 1000000) (hbl : bb.length ≤ 1000000) :
    Calls Tryd.prog 36 #[.agg tbl.toArray, vk, vb] w fun e w' => e = .returned (.agg (u8s (hmac key bb))) ∧ Below w.heap.size w w' := by
  obtain ⟨z32, hz32⟩ : ∃ z, u8s (List.replicate 32 0) = z := ⟨_, rfl⟩
  have hz32v : ∀ W : World, (zeroValue 70).run Tryd.prog W = .ok (.agg z32) W := fun W => by rw [← hz32, zero32]; kernel_rfl
  have HST : Bx (TS ((w.alloc (.cells tbl.toArray 41)).alloc (.cells z32 70)) w.heap.size (w.heap.size + 1) tbl vk vb key bb ∧ Below w.heap.size w ((w.alloc (.cells tbl.toArray 41)).alloc (.cells z32 70))) := Bx.mk (by
    have hB : Below w.heap.size w ((w.alloc (.cells tbl.toArray 41)).alloc (.cells z32 70)) := ((Below.refl _ _).alloc (Nat.le_refl _) _).alloc (by simp) _
    exact ⟨⟨by rw [hold _ _ _ (by simp), hnew _ _ _ rfl], by rw [hnew _ _ _ (by simp), hz32], by omega, hk.later hB, hb.later hB, hkl, hbl, htb⟩, hB⟩)
  obtain ⟨hm, hhm⟩ : ∃ hm, hmac key bb = hm := ⟨_, rfl⟩
  have HHM : Bx (sha (turn 92 (keyB key) ++ sha (turn 54 (keyB key) ++ bb)) = hm) := Bx.mk hhm
  rw [hhm]
  have HKL : Bx (key.length ≤ 1000000) := Bx.mk hkl
  obtain ⟨ak, ck, hvk, -, -⟩ := bytes_form hk
  obtain ⟨ab, cb, hvb, -, -⟩ := bytes_form hb
  obtain ⟨nk, hnk⟩ : ∃ n, key.length = n := ⟨_, rfl⟩
  obtain ⟨nb, hnb⟩ : ∃ n, bb.length = n := ⟨_, rfl⟩
  rw [hnk] at hvk
  rw [hnb] at hvb
  clear hnk hnb hk hb hkl hbl htb hz32 hhm
  subst hvk
  subst hvb
  go_enter Tryd.func36, Tryd.ntmps36
  go_upto_region 1 with (fail)
  generalize (w.alloc (.cells tbl.toArray 41)).alloc (.cells z32 70) = w2 at *
  refine reg1T w2 w.heap.size (w.heap.size + 1) tbl _ _ key bb HST.out.1 _ _ ⟨⟨rfl, rfl⟩, rfl, rfl, rfl, rfl⟩ ?_
  intro a' W1 D hIT h7 hB1 hr1
  have H1 : Bx (Below w2.heap.size w2 W1 ∧ W1.heap[D]? = some (.cells (u8s (sha (turn 54 (keyB key) ++ bb))) 70 (0, 0))) := Bx.mk ⟨hB1, hr1⟩
  clear hB1 hr1 hz32v
  have HIL : Bx ((sha (turn 54 (keyB key) ++ bb)).length = 32) := Bx.mk (sha_length _)
  generalize sha (turn 54 (keyB key) ++ bb) = inn at *
  obtain ⟨x, rfl, hx⟩ := open22 hIT.fr
  have e1 := (hx 1).symm.trans hIT.s1
  have e2 := (hx 2).symm.trans hIT.s2
  have e3 := (hx 3).symm.trans hIT.s3
  have e6 := (hx 6).symm.trans hIT.s6
  have e7 := (hx 7).symm.trans h7
  clear hIT hx h7
  rw [e1, e2, e3, e6, e7]
  clear e1 e2 e3 e6 e7
  go_upto_region 2 with (fail)
  have HMk : Bx (∀ W, Below w2.heap.size w2 W → W.rangeAt w.heap.size 0 tbl ∧ Bx (Below w.heap.size w W)) := Bx.mk (fun W hb => ⟨HST.out.1.rng hb, ⟨HST.out.2.trans (hb.mono HST.out.2.size)⟩⟩)
  have HFil : Bx (∀ W, Below w2.heap.size w2 W → Calls Tryd.prog 43 #[.agg tbl.toArray, .slice ak nk ck, .int .u8 92] W (FilQ w2 (turn 92 (keyB key)) W)) := Bx.mk (fun W hb => HST.out.1.fil 92 hb)
  have HTL : Bx ((turn 92 (keyB key)).length = 64) := Bx.mk (by rw [turn_length, keyB_length])
  have HSum : Bx (∀ W x, Bytes W x (turn 92 (keyB key) ++ inn) → Calls Tryd.prog 42 #[.agg tbl.toArray, x] W fun e W' => e = .returned (.agg (vs8 (sha (turn 92 (keyB key) ++ inn))).toArray) ∧ Bx (Below W.heap.size W W')) := Bx.mk (fun W x hx => HST.out.1.sum hx (by rw [List.length_append, HTL.out, HIL.out]; omega))
  have hu32 := Tryd.underlying41
  have hi32 := tbl_size3 HST.out.1.is
  have HB0 : Bx (Below w2.heap.size w2 W1.drew ∧ W1.drew.heap[D]? = some (.cells (u8s inn) 70 (0, 0))) := Bx.mk ⟨H1.out.1.drew, H1.out.2⟩
  clear H1
  have HRS : Bx (∀ W, Below w2.heap.size w2 W → W.heap[w.heap.size + 1]? = some (.cells (u8s (List.replicate 32 0)) 70 (0, 0))) := Bx.mk (fun W hb => by rw [hb.block _ (Array.getElem?_eq_some_iff.1 HST.out.1.res).1]; exact HST.out.1.res)
  generalize turn 92 (keyB key) = t92 at *
  refine wp_region_noPanic ?_
  refine wp_region_held_drew (S := fun W => W.rangeAt w.heap.size 0 tbl ∧ Bx (Below w.heap.size w W)) (by kernel_rfl) (HMk.out _ HB0.out.1) (fun hHeld => ?_)
  generalize W1.drew = W0 at *
  refine takeL 0 rfl (by kernel_rfl) (by kernel_rfl) (by kernel_rfl) (fun _ _ _ h => h) (yieldsIf_load_mid (by rfl) _ _ rfl _ _ rfl _ _ (fun w hSw => hSw.1) hu32 rfl hi32) hHeld ?_
  try simp only [Act.put, List.setIfInBounds_toArray, List.set_cons_zero, List.set_cons_succ]
  refine takeL 1 rfl (by kernel_rfl) (by kernel_rfl) (by kernel_rfl) (fun _ _ _ h => h) (yieldsIf_load_mid (by rfl) _ _ rfl _ _ rfl _ _ (fun w hSw => hSw.1) hu32 rfl hi32) hHeld ?_
  try simp only [Act.put, List.setIfInBounds_toArray, List.set_cons_zero, List.set_cons_succ]
  refine takeL 2 (v := ?_) rfl (by kernel_rfl) (by kernel_rfl) (by kernel_rfl) (fun _ _ _ h => h) (Or.inl ⟨by rfl, ?_⟩) hHeld ?_
  rotate_left 1
  · (intro w hSw; go_simp; try with_reducible rfl)
  try simp only [Act.put, List.setIfInBounds_toArray, List.set_cons_zero, List.set_cons_succ]
  refine takeL 4 (v := ?_) rfl (by kernel_rfl) (by kernel_rfl) (by kernel_rfl) (fun _ _ _ h => h) (Or.inl ⟨by rfl, ?_⟩) hHeld ?_
  rotate_left 1
  · (intro w hSw; go_simp; try with_reducible rfl)
  try simp only [Act.put, List.setIfInBounds_toArray, List.set_cons_zero, List.set_cons_succ]
  refine stepL 3 (by kernel_rfl) rfl (fun K hK => ?_)
  go_simp
  refine (HFil.out _ HB0.out.1).mono ?_
  rintro e W3 ⟨M, rfl, h3⟩
  show K _ _
  refine hK.out _ _ (HMk.out _ (HB0.out.1.trans (h3.out.2.mono HB0.out.1.size))) (fun hHeld => ?_)
  clear hK K
  try simp only [Act.put, List.setIfInBounds_toArray, List.set_cons_zero, List.set_cons_succ]
  have H3 : Bx (Below w2.heap.size w2 W3 ∧ Bytes W3 (.slice (some ⟨D, 0, none⟩) 32 32) inn ∧ OwnB W3 w2.heap.size (.slice (some ⟨M, 0, none⟩) 64 64) t92) := Bx.mk ⟨HB0.out.1.trans (h3.out.2.mono HB0.out.1.size), (row_bytes HB0.out.2 HIL.out).later h3.out.2, h3.out.1⟩
  clear h3
  refine stepL 5 (by kernel_rfl) rfl (fun K hK => ?_)
  refine step_ap rfl _ _ rfl w2.heap.size _ t92 (by rfl) H3.out.2.2 _ inn (by rfl) H3.out.2.1 (by rw [HTL.out, HIL.out]; omega) H3.out.1.size ?_
  intro v5 W5 ho5 hg5 _
  have H5 : Bx (Below w2.heap.size w2 W5 ∧ Bytes W5 v5 (t92 ++ inn)) := Bx.mk ⟨H3.out.1.trans (own_below H3.out.2.2 hg5 H3.out.1.size), ho5.bytes⟩
  refine hK.out _ _ (HMk.out _ H5.out.1) (fun hHeld => ?_)
  clear hK K
  try simp only [Act.put, List.setIfInBounds_toArray, List.set_cons_zero, List.set_cons_succ]
  clear ho5 hg5 H3
  refine stepL 6 (by kernel_rfl) rfl (fun K hK => ?_)
  go_simp
  refine (HSum.out _ _ H5.out.2).mono ?_
  rintro e W6 ⟨rfl, h6⟩
  show K _ _
  refine hK.out _ _ (HMk.out _ (H5.out.1.trans (h6.out.mono H5.out.1.size))) (fun hHeld => ?_)
  clear hK K
  try simp only [Act.put, List.setIfInBounds_toArray, List.set_cons_zero, List.set_cons_succ]
  have H6 : Bx (Below w2.heap.size w2 W6) := Bx.mk (H5.out.1.trans (h6.out.mono H5.out.1.size))
  have HUV : Bx ((vs8 (sha (t92 ++ inn))).toArray = u8s hm) := Bx.mk (by rw [HHM.out]; rfl)
  have HML : Bx (hm.length = 32) := Bx.mk (by rw [← HHM.out, sha_length])
  clear H5 h6
  rw [HUV.out]
  have HI3 : Bx ((Tryd.prog.info? 70).map (·.size) = some (u8s hm).size) := Bx.mk (by rw [u8s_size, HML.out]; kernel_rfl)
  have HR6 := Bx.mk (HRS.out _ H6.out)
  have Hw : Bx (w.heap.size + 1 < w2.heap.size ∧ w.heap.size ≠ w.heap.size + 1) := Bx.mk ⟨(Array.getElem?_eq_some_iff.1 HST.out.1.res).1, by omega⟩
  have Hd : Bx (Below w.heap.size w (W6.setCells (w.heap.size + 1) 0 (u8s hm).toList) ∧ (W6.setCells (w.heap.size + 1) 0 (u8s hm).toList).heap[w.heap.size + 1]? = some (.cells (u8s hm) 70 (0, 0))) := Bx.mk ⟨below_setCells (by omega) _ _ _ _ (HST.out.2.trans (H6.out.mono HST.out.2.size)), heap_setCells_all HR6.out (by rw [u8s_size, u8s_size, HML.out]; rfl)⟩
  have Hr : Bx ((W6.setCells (w.heap.size + 1) 0 (u8s hm).toList).rangeAt w.heap.size 0 tbl) := Bx.mk (fun j v hv => by
    have hx := (HMk.out _ H6.out).1 j v hv
    rw [← hx]
    show World.cell? _ _ = _
    unfold World.cell?
    rw [heap_setCells_other (w.heap.size + 1) w.heap.size (by omega)])
  refine stepL 7 (by kernel_rfl) rfl (fun K hK => ?_)
  refine step_st rfl 70 _ _ rfl (w.heap.size + 1) (u8s hm) (by rfl) (by rfl) (there_row HR6.out 0 _ (by rw [u8s_size, u8s_size, HML.out]; simp)) HI3.out (one_u8s _) ?_
  refine hK.out _ _ ⟨Hr.out, ⟨Hd.out.1⟩⟩ (fun hHeld => ?_)
  refine wpAnyH_done (by kernel_rfl) ?_ _
  refine NoPanic.normal ?_
  clear hK K hHeld
  go_wp2
  refine bodyPost_ret (results_cell_row rfl _ _ (w.heap.size + 1) _ (u8s hm) _ _ rfl Hd.out.2 Tryd.underlying70 rfl HI3.out) rfl ?_
  exact ⟨rfl, Hd.out.1⟩
end Go.Proofs.YtncbhnkhbohejaaDoor
namespace Go.Proofs.YtncbhnkhbohejaaDoor
open Go Go.RowKit
theorem BN.below {W W1 : World} {g : Nat} {v : Value} {l : List UInt8} (h : BN W g v l) (hb : Below W.heap.size W W1) : BN W1 g v l := h.later (kb_below (some g) hb)
/-- What framed has made so far. -/
structure FrS (w : World) (cap : Nat) (xs : List Value) (qs : List (List UInt8)) (W : World) : Prop where
  below : Below w.heap.size w W
  own : W.ownsRow w.heap.size 22 1 (.slice (some ⟨w.heap.size, 0, none⟩) xs.length cap) xs.length xs
  len : xs.length = qs.length
  vals : ∀ j, j < xs.length → BN W w.heap.size (xs.getD j undef) (qs.getD j [])
  lt : w.heap.size < W.heap.size
theorem FrS.later {w W W1 : World} {cap : Nat} {xs : List Value} {qs : List (List UInt8)} (h : FrS w cap xs qs W) (hb : Below W.heap.size W W1) : FrS w cap xs qs W1 :=
  ⟨h.below.trans (hb.mono h.below.size), OwnP.later h.own hb (fun g hg => by injection hg with hg; have := h.lt; simp only at hg; omega), h.len, fun j hj => (h.vals j hj).below hb, Nat.lt_of_lt_of_le h.lt hb.size⟩
theorem FrS.more {w W W1 : World} {cap : Nat} {xs : List Value} {qs : List (List UInt8)} (h : FrS w cap xs qs W) {y z : Value} {p r : List UInt8} (hy : BN W w.heap.size y p) (hz : BN W w.heap.size z r)
    (ho : W1.ownsRow w.heap.size 22 1 (.slice (some ⟨w.heap.size, 0, none⟩) (xs.length + 2) cap) (xs.length + 2) (xs ++ [y, z])) (hk : W.grownBy W1 (some w.heap.size)) : FrS w cap (xs ++ [y, z]) (qs ++ [p, r]) W1 := by
  refine ⟨below_kb h.below h.below.size hk (Nat.le_refl _), by rw [List.length_append]; exact ho, by rw [List.length_append, List.length_append, h.len]; rfl, fun j hj => ?_, Nat.lt_of_lt_of_le h.lt hk.size⟩
  rw [List.length_append] at hj
  by_cases h1 : j < xs.length
  · have e1 : (xs ++ [y, z]).getD j undef = xs.getD j undef := by simp [List.getElem?_append_left h1]
    have e2 : (qs ++ [p, r]).getD j [] = qs.getD j [] := by simp [List.getElem?_append_left (h.len ▸ h1)]
    rw [e1, e2]
    exact (h.vals j h1).later hk
  · have hj2 : j = xs.length ∨ j = xs.length + 1 := by simp at hj; omega
    rcases hj2 with rfl | rfl
    · have e1 : (xs ++ [y, z]).getD xs.length undef = y := by simp
      have e2 : (qs ++ [p, r]).getD xs.length [] = p := by rw [h.len]; simp
      rw [e1, e2]
      exact hy.later hk
    · have e1 : (xs ++ [y, z]).getD (xs.length + 1) undef = z := by simp
      have e2 : (qs ++ [p, r]).getD (xs.length + 1) [] = r := by rw [h.len]; simp
      rw [e1, e2]
      exact hz.later hk
theorem FrS.parts {w W : World} {cap : Nat} {xs : List Value} {qs : List (List UInt8)} (h : FrS w cap xs qs W) : Parts W (.slice (some ⟨w.heap.size, 0, none⟩) xs.length cap) qs :=
  own_parts h.own ⟨h.len, fun j hj => (h.vals j hj).1⟩
theorem framed_succ (l : List UInt8) (pss : List (List UInt8)) (k : Nat) (h : k < pss.length) : framed (l :: pss.take (k + 1)) = framed (l :: pss.take k) ++ [lenB (pss.getD k []).length, pss.getD k []] := by
  unfold framed
  rw [List.take_succ_eq_append_getElem h, ← List.cons_append, List.flatMap_append]
  simp [h]
/-- Two slices more. -/
theorem wpList_ap2 {ops : Array Oper} {rest : List Oper} {o : Oper} {a : Act} {Q : Exit → Act → World → Prop} (hgd : o.guard = none) (s x : Operand) (ho : o.op = .call { callee := .builtin .append, args := #[s, x], argTypes := #[23, 23] })
    (w W0 : World) (cp : Nat) (xs : List Value) (qs : List (List UInt8)) (y z : Value) (p r : List UInt8) (hF : FrS w cp xs qs W0) (hy : BN W0 w.heap.size y p) (hz : BN W0 w.heap.size z r) (oy : y.oneCell' = true) (oz : z.oneCell' = true) (m : Nat) (hm : xs.length = m)
    (hs : a.eval s = .slice (some ⟨w.heap.size, 0, none⟩) m cp) (hx : a.eval x = .slice (some ⟨W0.heap.size, 0, none⟩) 2 2) (hfit : m + 2 ≤ cp)
    (k : ∀ W1, FrS w cp (xs ++ [y, z]) (qs ++ [p, r]) W1 → wpList Tryd.prog ops Q rest (a.put o.dst (.slice (some ⟨w.heap.size, 0, none⟩) (m + 2) cp)) W1) : wpList Tryd.prog ops Q (o :: rest) a (W0.alloc (.cells #[y, z] 22)) := by
  obtain ⟨i0, hi0, hz0, hz1, hz2⟩ := info_parts (P := Tryd.prog) (e := 22) (z := .slice none 0 0) (size := 1) (bytes := 24) (by kernel_rfl)
  have hF' := hF.later (below_a (.cells #[y, z] 22))
  subst hm
  refine wpList_append_fits _ hgd s x 23 ho w.heap.size 22 i0 1 Tryd.underlying23 hi0 hz1 w.heap.size xs.length cp xs hs hF'.own ⟨W0.heap.size, 0, none⟩ 2 2 [y, z] hx rfl ?_ ?_ hfit ?_
  · intro j u hu
    have hj : j < 2 := (List.getElem?_eq_some_iff.1 hu).1
    rw [show (⟨W0.heap.size, 0, none⟩ : Addr).add j = ⟨W0.heap.size, 0 + j, none⟩ by unfold Addr.add; split <;> simp_all, cell_of_row _ _ _ _ _ _ (hnew _ _ _ rfl), Nat.zero_add, ← Array.getElem?_toList]
    exact hu
  · intro u hu
    simp at hu
    rcases hu with rfl | rfl
    · exact oy
    · exact oz
  · intro W1 ho1 hg1
    exact k W1 (hF'.more (hy.below (below_a _)) (hz.below (below_a _)) ho1 hg1)
/-- What framed hands back. -/
def FraP (w : World) (l : List UInt8) (pss : List (List UInt8)) (e : Ending) (w' : World) : Prop := ∃ n cap, e = .returned (.slice (some ⟨w.heap.size, 0, none⟩) n cap) ∧ Parts w' (.slice (some ⟨w.heap.size, 0, none⟩) n cap) (framed (l :: pss)) ∧ Below w.heap.size w w'
set_option maxRecDepth 100000 in
set_option maxHeartbeats 1000000 in
theorem framed_any (l : List UInt8) (pss : List (List UInt8)) (vp : Value) (w : World) (hp : Parts w vp pss) (hl : l.length ≤ 1000000) (hn : pss.length ≤ 1000) (hpl : ∀ p ∈ pss, p.length ≤ 1000000) :
    Calls Tryd.prog 48 #[.string ⟨l.toArray⟩, vp] w (FraP w l pss) := by
  have HP := Bx.mk hp
  have HPL := Bx.mk hpl
  have HL := Bx.mk hl
  obtain ⟨a, cap, rfl, -⟩ := hp
  obtain ⟨n, hnn⟩ : ∃ n, pss.length = n := ⟨_, rfl⟩
  have HN := Bx.mk hnn
  rw [hnn] at HP hn ⊢
  have hn1 : (n : Int) ≤ 1000 := by omega
  have hsz : (⟨l.toArray⟩ : ByteArray).size = l.length := rfl
  obtain ⟨ll, hll⟩ : ∃ ll, l.length = ll := ⟨_, rfl⟩
  have HLL := Bx.mk hll
  rw [hll] at hsz hl
  have hl1 : (ll : Int) ≤ 1000000 := by omega
  clear hnn hpl hll
  obtain ⟨i0, hi0, hz0, hz1, hz2⟩ := info_parts (P := Tryd.prog) (e := 22) (z := .slice none 0 0) (size := 1) (bytes := 24) (by kernel_rfl)
  obtain ⟨cp, hcp⟩ : ∃ cp, cp = 2 + 2 * n := ⟨_, rfl⟩
  have hcp1 : 2 + 2 * (n : Int) = (cp : Int) := by omega
  have HCP := Bx.mk hcp
  clear hcp
  go_enter Tryd.func48, Tryd.ntmps48
  go_upto_region 2 with (refine wpList_make_own w rfl _ _ 23 rfl w.heap.size 22 i0 _ 1 Tryd.underlying23 hi0 hz0 hz1 .i64 .i64 _ cp (by rfl) (by rfl) rfl (by rw [hz2]; have := HCP.out; omega) (by have := HCP.out; unfold maxLen; omega) (Nat.le_refl _) ?_; intro w1 ho1 hg1)
  have H1 : Bx (FrS w cp [] [] w1) := Bx.mk (by
    have hlt : w.heap.size < w1.heap.size := by
      rcases ho1.2 with ⟨hv, _⟩ | ⟨g, c, cur, hv, _, hh, _⟩
      · cases hv
      · injection hv with e1 _ _
        injection e1 with e1
        injection e1 with e1 _
        subst e1
        exact (Array.getElem?_eq_some_iff.1 hh).1
    exact ⟨⟨hg1.os, hg1.tape, hg1.output, hg1.size, fun i hi => hg1.block i hi (by intro e; cases e)⟩, ho1, rfl, (fun j hj => by simp at hj), hlt⟩)
  clear ho1 hg1 hi0 hz0 hz1 hz2
  go_wp2_with fail
  refine (length_any ll w1 (by omega)).mono ?_
  rintro e w2 ⟨rfl, hb2, hy2⟩
  have H2 : Bx (FrS w cp [] [] w2 ∧ BN w2 w.heap.size (.slice (some ⟨w1.heap.size, 0, none⟩) 4 4) (lenB ll)) := Bx.mk ⟨H1.out.later hb2, hy2.bn (by have := H1.out.lt; omega)⟩
  clear hb2 hy2 H1
  generalize w1.heap.size = L1 at *
  go_upto_region 3 with (first | (refine wpList_strb rfl _ rfl l (by rfl) ?_; intro c3 w3 hz3 hb3; have H3 : Bx (FrS w cp [] [] w3 ∧ BN w3 w.heap.size (.slice (some ⟨L1, 0, none⟩) 4 4) (lenB ll) ∧ BN w3 w.heap.size (.slice (some ⟨w2.heap.size, 0, none⟩) l.length c3) l) := Bx.mk ⟨H2.out.1.later hb3, H2.out.2.below hb3, hz3.bn (by have := H2.out.1.lt; omega)⟩; clear hz3 hb3) | (refine wpList_ap2 rfl _ _ rfl w w3 cp [] [] _ _ (lenB ll) l H3.out.1 H3.out.2.1 H3.out.2.2 rfl rfl 0 rfl (by rfl) (by rfl) (by have := HCP.out; omega) ?_; intro w4 hF4; have H4 : Bx (∃ xs : List Value, xs.length = 2 ∧ FrS w cp xs (framed (l :: pss.take 0)) w4) := Bx.mk ⟨_, rfl, by rw [← HLL.out] at hF4; exact hF4⟩; clear hF4))
  go_wp2
  go_loopw [5, 23] (fun vv i wr => ∃ j m : Nat, j ≤ n ∧ m = 2 + 2 * j ∧ vv = .slice (some ⟨w.heap.size, 0, none⟩) m cp ∧ i = .int .i64 (j : Int) ∧ Bx (∃ xs : List Value, xs.length = m ∧ FrS w cp xs (framed (l :: pss.take j)) wr)) (fun _ i _ => n - (intOf i).toNat)
  case atStart => exact ⟨0, 2, by omega, rfl, rfl, rfl, H4⟩
  case round =>
    clear H4 H3 H2
    obtain ⟨j, m, hj, hm, rfl, rfl, HF⟩ := hrel
    by_cases hlt : j < n
    · obtain ⟨a', cap', hv', hr'⟩ := HP.out
      injection hv' with e1 e2 e3
      obtain ⟨p, o, ha, hcell⟩ := hr' (by omega)
      subst e1
      subst ha
      obtain ⟨xv, hx, hxb⟩ := hcell j (by rw [HN.out]; exact hlt)
      obtain ⟨xs, hxs, hF⟩ := HF.out
      have hcw : wr.cell? ⟨p, o + j, none⟩ = some xv := by
        rw [hF.below.cell (p := ⟨p, o + j, none⟩) (World.block_lt_of_cell? _ _ hx)]
        exact hx
      have hpj : (pss.getD j []).length ≤ 1000000 := by
        have h : j < pss.length := by rw [HN.out]; exact hlt
        have hmem : pss.getD j [] ∈ pss := by
          rw [List.getD_eq_getElem?_getD, List.getElem?_eq_getElem h]
          exact List.getElem_mem h
        exact HPL.out _ hmem
      have HSc : Bx (framed (l :: pss.take (j + 1)) = framed (l :: pss.take j) ++ [lenB (pss.getD j []).length, pss.getD j []]) := Bx.mk (framed_succ l pss j (by rw [HN.out]; exact hlt))
      generalize pss.getD j [] = pj at *
      obtain ⟨ax, cx, hxf, -, -⟩ := bytes_form hxb
      obtain ⟨pl, hpl⟩ : ∃ pl, pj.length = pl := ⟨_, rfl⟩
      rw [hpl] at hxf hpj HSc
      have HXB := Bx.mk hxb
      have HF2 := Bx.mk (And.intro hxs hF)
      subst hxf
      have hpl1 : (pl : Int) ≤ 1000000 := by omega
      have hj1 : (j : Int) < (n : Int) := by omega
      have HM := Bx.mk (And.intro hm hlt)
      clear hr' e2 e3 hcell hx hxb hF hxs HF hpl hm
      obtain ⟨wq, rfl⟩ : ∃ wq : World, wq = wr := ⟨_, rfl⟩
      go_wp2_with fail
      refine (length_any pl wq (by omega)).mono ?_
      rintro e w5 ⟨rfl, hb5, hy5⟩
      have H5 : Bx (FrS w cp xs (framed (l :: pss.take j)) w5 ∧ BN w5 w.heap.size (.slice (some ⟨wq.heap.size, 0, none⟩) 4 4) (lenB pl) ∧ BN w5 w.heap.size (.slice ax pl cx) pj) := Bx.mk ⟨HF2.out.2.later hb5, hy5.bn (by have := HF2.out.2.lt; omega), HXB.out.bn_old (HF2.out.2.later hb5).below (Nat.le_refl _)⟩
      have HXL := Bx.mk HF2.out.1
      clear hb5 hy5 HF2 hcw
      generalize wq.heap.size = L5 at *
      go_wp2_with (refine wpList_ap2 rfl _ _ rfl w w5 cp xs _ (.slice (some ⟨L5, 0, none⟩) 4 4) (.slice ax pl cx) (lenB pl) pj H5.out.1 H5.out.2.1 H5.out.2.2 rfl rfl m HXL.out (by rfl) (by rfl) (by have := HCP.out; have := HM.out; omega) ?_; intro w6 hF6; have H6 : Bx (∃ ys : List Value, ys.length = m + 2 ∧ FrS w cp ys (framed (l :: pss.take (j + 1))) w6) := Bx.mk ⟨xs ++ [.slice (some ⟨L5, 0, none⟩) 4 4, .slice ax pl cx], by (rw [List.length_append, HXL.out]; rfl), by (rw [HSc.out]; exact hF6)⟩; clear hF6)
      go_roundw
      case rel => exact ⟨j + 1, m + 2, by omega, by have := HM.out; omega, rfl, by go_num, H6⟩
      case measure => simp [intOf]; omega
    · obtain ⟨xs, hxs, hF⟩ := HF.out
      have ej : pss.take j = pss := List.take_of_length_le (by rw [HN.out]; omega)
      rw [ej] at hF
      have HQ : Bx (Parts wr (.slice (some ⟨w.heap.size, 0, none⟩) m cp) (framed (l :: pss)) ∧ Below w.heap.size w wr) := Bx.mk ⟨by rw [← hxs]; exact hF.parts, hF.below⟩
      clear HF hF ej hxs hm
      go_wp2
      go_ret
      exact ⟨m, cp, rfl, HQ.out⟩
set_option maxRecDepth 100000 in
theorem framed_all (ps : List (List UInt8)) : (framed ps).length = 2 * ps.length := by
  induction ps with
  | nil => rfl
  | cons p ps ih =>
    unfold framed at ih ⊢
    rw [List.flatMap_cons, List.length_append, ih, List.length_cons]
    simp
    omega
theorem framed_len (l : List UInt8) (pss : List (List UInt8)) : (framed (l :: pss)).length = 2 + 2 * pss.length := by
  rw [framed_all, List.length_cons]; omega
theorem frame_cons (p : List UInt8) (ps : List (List UInt8)) : frame (p :: ps) = lenB p.length ++ (p ++ frame ps) := by
  unfold frame framed
  simp
theorem frame_len (ps : List (List UInt8)) (b : Nat) (h : ∀ p ∈ ps, p.length ≤ b) : (frame ps).length ≤ (4 + b) * ps.length := by
  induction ps with
  | nil => simp [frame, framed]
  | cons p ps ih =>
    rw [frame_cons, List.length_append, List.length_append]
    have h1 := h p (by simp)
    have h2 := ih (fun q hq => h q (by simp [hq]))
    have h3 : (lenB p.length).length = 4 := rfl
    rw [h3, List.length_cons, Nat.mul_add, Nat.mul_one]
    omega
set_option maxRecDepth 100000 in
set_option maxHeartbeats 1000000 in
theorem derive_any (key l : List UInt8) (pss : List (List UInt8)) (v vp : Value) (w : World) (hv : Bytes w v key) (hp : Parts w vp pss) (hk : key.length ≤ 1000000) (hl : l.length ≤ 10000) (hn : pss.length ≤ 1000) (hpl : ∀ p ∈ pss, p.length ≤ 10000) (hTab : Tab w) (hg : 0 < w.heap.size) :
    Calls Tryd.prog 41 #[v, .string ⟨l.toArray⟩, vp] w fun e w' => e = .returned (.agg (u8s (hmac key (frame (l :: pss))))) ∧ Below w.heap.size w w' := by
  have HV := Bx.mk hv
  have HP := Bx.mk hp
  have HL := Bx.mk (And.intro hk (And.intro hl (And.intro hn hpl)))
  have HA := Bx.mk hTab
  obtain ⟨a, cap, rfl, -⟩ := hv
  obtain ⟨n, hn1⟩ : ∃ n, key.length = n := ⟨_, rfl⟩
  rw [hn1] at HV ⊢
  clear hk hl hn hpl hTab hp hn1
  obtain ⟨z32, hz32⟩ : ∃ z, u8s (List.replicate 32 0) = z := ⟨_, rfl⟩
  have hz32v : ∀ W : World, (zeroValue 70).run Tryd.prog W = .ok (.agg z32) W := fun W => by rw [← hz32, zero32]; kernel_rfl
  have H0 : Bx (Below w.heap.size w (w.alloc (.cells z32 70)) ∧ (w.alloc (.cells z32 70)).heap[w.heap.size]? = some (.cells (u8s (List.replicate 32 0)) 70 (0, 0)) ∧ w.heap.size < (w.alloc (.cells z32 70)).heap.size) := Bx.mk ⟨below_a _, by rw [hnew _ _ _ rfl, hz32], by simp⟩
  clear hz32
  go_enter Tryd.func41, Tryd.ntmps41
  go_wp2_with fail
  generalize w.alloc (.cells z32 70) = w0 at *
  refine (framed_any l pss vp w0 (HP.out.later H0.out.1) (by have := HL.out; omega) HL.out.2.2.1 (fun p hp => by have := HL.out.2.2.2 p hp; omega)).mono ?_
  rintro e w1 ⟨m, cp, rfl, hq, hb1⟩
  have H1 : Bx (Below w.heap.size w w1 ∧ w1.heap[w.heap.size]? = some (.cells (u8s (List.replicate 32 0)) 70 (0, 0)) ∧ Parts w1 (.slice (some ⟨w0.heap.size, 0, none⟩) m cp) (framed (l :: pss)) ∧ Bytes w1 (.slice a n cap) key) := Bx.mk ⟨H0.out.1.trans (hb1.mono H0.out.1.size), by rw [hb1.block _ H0.out.2.2]; exact H0.out.2.1, hq, (HV.out.later H0.out.1).later hb1⟩
  clear hq hb1 H0 hz32v
  generalize w0.heap.size = G0 at *
  go_wp2_with fail
  refine (tag_any key (framed (l :: pss)) _ _ w1 H1.out.2.2.2 H1.out.2.2.1 HL.out.1 (by have := HL.out; rw [framed_len]; omega) (by
    have h1 := HL.out
    have h2 := frame_len (l :: pss) 10000 (fun p hp => by rcases List.mem_cons.1 hp with rfl | hp; exact h1.2.1; exact h1.2.2.2 p hp)
    rw [List.length_cons] at h2
    show (frame (l :: pss)).length ≤ _
    omega) (HA.out.later H1.out.1 hg) (Nat.lt_of_lt_of_le hg H1.out.1.size)).mono ?_
  rintro e w2 ⟨rfl, hb2⟩
  have H2 : Bx (Below w.heap.size w w2 ∧ w2.heap[w.heap.size]? = some (.cells (u8s (List.replicate 32 0)) 70 (0, 0))) := Bx.mk ⟨H1.out.1.trans (hb2.mono H1.out.1.size), by rw [hb2.block _ (Array.getElem?_eq_some_iff.1 H1.out.2.1).1]; exact H1.out.2.1⟩
  clear hb2 H1
  have HE : Bx (hmac key (framed (l :: pss)).flatten = hmac key (frame (l :: pss))) := Bx.mk rfl
  rw [HE.out]
  have HSL : Bx ((hmac key (frame (l :: pss))).length = 32) := Bx.mk (sha_length _)
  generalize hhm : hmac key (frame (l :: pss)) = hm at *
  have HHM := Bx.mk hhm
  clear hhm
  have HI : Bx ((Tryd.prog.info? 70).map (·.size) = some (u8s hm).size) := Bx.mk (by rw [u8s_size, HSL.out]; kernel_rfl)
  have HZ : Bx ((u8s hm).size = (u8s (List.replicate 32 0)).size) := Bx.mk (by rw [u8s_size, u8s_size, HSL.out]; rfl)
  go_wp2_with (refine wpList_store_new rfl 70 _ _ rfl w.heap.size (u8s hm) _ _ (by rfl) (by rfl) H2.out.2 HZ.out HI.out (one_u8s _) ?_; intro w3 hw3 hr3; have H3 : Bx (Below w.heap.size w w3 ∧ w3.heap[w.heap.size]? = some (.cells (u8s hm) 70 (0, 0))) := Bx.mk ⟨by rw [hw3]; exact below_setCells (Nat.le_refl _) _ _ _ _ H2.out.1, hr3⟩; clear hw3 hr3)
  refine bodyPost_ret (results_cell_row rfl _ _ w.heap.size _ (u8s hm) _ _ rfl H3.out.2 Tryd.underlying70 rfl HI.out) rfl ?_
  exact ⟨by first | rfl | rw [HHM.out], H3.out.1⟩
theorem frame_succ (ps : List (List UInt8)) (k : Nat) (h : k < ps.length) : frame (ps.take (k + 1)) = (frame (ps.take k) ++ lenB (ps.getD k []).length) ++ ps.getD k [] := by
  unfold frame framed
  rw [List.take_succ_eq_append_getElem h, List.flatMap_append, List.flatten_append]
  simp [h]
/-- At the head of each part. -/
def FrR (w : World) (ps : List (List UInt8)) (vv i : Value) (wr : World) : Prop := ∃ k : Nat, k ≤ ps.length ∧ i = .int .i64 (k : Int) ∧ OwnB wr w.heap.size vv (frame (ps.take k)) ∧ Below w.heap.size w wr
def FrQ (w : World) (ps : List (List UInt8)) (e : Ending) (w' : World) : Prop := ∃ v', e = .returned v' ∧ OwnB w' w.heap.size v' (frame ps) ∧ Below w.heap.size w w'
set_option maxRecDepth 100000 in
set_option maxHeartbeats 1000000 in
theorem rframe_any (ps : List (List UInt8)) (v : Value) (w : World) (hp : Parts w v ps) (hn : ps.length ≤ 1000) (hpl : ∀ p ∈ ps, p.length ≤ 10000) :
    Calls Tryd.prog 37 #[v] w (FrQ w ps) := by
  have HP := Bx.mk hp
  have HPL := Bx.mk hpl
  obtain ⟨a, cap, rfl, -⟩ := hp
  obtain ⟨n, hnn⟩ : ∃ n, ps.length = n := ⟨_, rfl⟩
  have HN := Bx.mk hnn
  rw [hnn] at HP hn ⊢
  have hn1 : (n : Int) ≤ 1000 := by omega
  clear hnn hpl
  go_enter Tryd.func37, Tryd.ntmps37
  go_wp2
  go_loopw [3, 4] (fun vv i wr => FrR w ps vv i wr) (fun _ i _ => n - (intOf i).toNat)
  case atStart => exact ⟨0, by omega, rfl, OwnB.nil _ _, Below.refl _ _⟩
  case round =>
    obtain ⟨k, hk, rfl, hob, hbel⟩ := hrel
    have HA := Bx.mk (And.intro hob hbel)
    clear hob hbel
    by_cases hlt : k < n
    · obtain ⟨a', cap', hv', hr'⟩ := HP.out
      injection hv' with e1 e2 e3
      obtain ⟨p, o, ha, hcell⟩ := hr' (by omega)
      subst e1
      subst ha
      obtain ⟨xv, hx, hxb⟩ := hcell k (by rw [HN.out]; exact hlt)
      have hcw : ∀ W, Below w.heap.size w W → W.cell? ⟨p, o + k, none⟩ = some xv := fun W hb => by
        rw [hb.cell (p := ⟨p, o + k, none⟩) (World.block_lt_of_cell? _ _ hx)]
        exact hx
      have HCW := Bx.mk hcw
      have hpj : (ps.getD k []).length ≤ 10000 := by
        have h : k < ps.length := by rw [HN.out]; exact hlt
        have hmem : ps.getD k [] ∈ ps := by
          rw [List.getD_eq_getElem?_getD, List.getElem?_eq_getElem h]
          exact List.getElem_mem h
        exact HPL.out _ hmem
      have HSc := Bx.mk (frame_succ ps k (by rw [HN.out]; exact hlt))
      have HFl : Bx ((frame (ps.take k)).length ≤ 10004 * 1000) := Bx.mk (by
        have h := frame_len (ps.take k) 10000 (fun q hq => HPL.out q (List.mem_of_mem_take hq))
        rw [List.length_take] at h
        have : min k ps.length ≤ 1000 := by rw [HN.out]; omega
        calc _ ≤ (4 + 10000) * min k ps.length := h
          _ ≤ _ := Nat.mul_le_mul_left _ this)
      generalize ps.getD k [] = pj at *
      generalize frame (ps.take k) = fk at *
      obtain ⟨ax, cx, hxf, -, -⟩ := bytes_form hxb
      obtain ⟨pl, hpl⟩ : ∃ pl, pj.length = pl := ⟨_, rfl⟩
      have HPJ := Bx.mk hpl
      rw [hpl] at hxf hpj HSc
      have HXB := Bx.mk hxb
      subst hxf
      have c1 := HCW.out wr HA.out.2
      have hpl1 : (pl : Int) ≤ 10000 := by omega
      have hk1 : (k : Int) < (n : Int) := by omega
      have h3 := (len_byte pl 3).resolve_right (by omega)
      have h2 := (len_byte pl 2).resolve_right (by omega)
      have h1 := (len_byte pl 1).resolve_right (by omega)
      have h0 := (len_byte pl 0).resolve_right (by omega)
      simp only [Nat.mul_zero, Int.pow_zero, Nat.reduceMul, Int.reducePow, Int.ediv_one] at h0 h1 h2 h3
      have h3b : (pl : Int) / 16777216 = ub (byteOf (BitVec.ofNat 32 pl) 3) := by rw [← h3]; omega
      clear h3
      have HBu : Bx (∀ W : World, Bytes (W.alloc (.cells #[.int .u8 (ub (byteOf (BitVec.ofNat 32 pl) 3)), .int .u8 (ub (byteOf (BitVec.ofNat 32 pl) 2)), .int .u8 (ub (byteOf (BitVec.ofNat 32 pl) 1)), .int .u8 (ub (byteOf (BitVec.ofNat 32 pl) 0))] 5)) (.slice (some ⟨W.heap.size, 0, none⟩) 4 4) (lenB pl)) := Bx.mk (fun W => built W (lenB pl))
      have HLB : Bx ((lenB pl).length = 4) := Bx.mk rfl
      clear hr' e2 e3 hcell hx hxb hpl hcw
      obtain ⟨wq, rfl⟩ : ∃ wq : World, wq = wr := ⟨_, rfl⟩
      go_upto_region 7 with (refine wpList_ap rfl _ _ rfl w.heap.size _ fk (by rfl) (ownB_a HA.out.1 _) _ (lenB pl) (by rfl) (HBu.out wq) (by have := HFl.out; have := HLB.out; omega) (Nat.le_trans HA.out.2.size (below_a _).size) ?_; intro v5 w5 ho5 hg5 _; have H5 : Bx (OwnB w5 w.heap.size v5 (fk ++ lenB pl) ∧ Below w.heap.size w w5) := Bx.mk ⟨ho5, (HA.out.2.trans ((below_a _).mono HA.out.2.size)).trans (own_below (ownB_a HA.out.1 _) hg5 (Nat.le_trans HA.out.2.size (below_a _).size))⟩; clear ho5 hg5)
      clear h0 h1 h2 h3b c1
      have c2 := HCW.out w5 H5.out.2
      go_wp2_with (refine wpList_ap rfl _ _ rfl w.heap.size _ (fk ++ lenB pl) (by rfl) H5.out.1 _ pj (by rfl) (HXB.out.later H5.out.2) (by have := HFl.out; have := HLB.out; have := HPJ.out; rw [List.length_append]; omega) H5.out.2.size ?_; intro v6 w6 ho6 hg6 _; have H6 : Bx (OwnB w6 w.heap.size v6 (frame (ps.take (k + 1))) ∧ Below w.heap.size w w6) := Bx.mk ⟨by rw [HSc.out]; exact ho6, H5.out.2.trans (own_below H5.out.1 hg6 H5.out.2.size)⟩; clear ho6 hg6)
      go_roundw
      case rel => exact ⟨k + 1, by rw [HN.out]; omega, by go_num, H6.out⟩
      case measure => simp [intOf]; omega
    · have e : ps.take k = ps := List.take_of_length_le (by rw [HN.out]; omega)
      rw [e] at HA
      clear e
      go_wp2
      go_ret
      exact ⟨_, rfl, HA.out⟩
theorem vals_one {w : World} {ys : List Value} {ps : List (List UInt8)} (h : Vals w ys ps) : ∀ u ∈ ys, u.oneCell' = true := by
  intro u hu
  obtain ⟨j, hj, rfl⟩ := List.getElem_of_mem hu
  obtain ⟨a, cap, hv, _⟩ := h.2 j hj
  have e : ys.getD j undef = ys[j] := by simp [hj]
  rw [← e, hv]
  rfl
set_option maxRecDepth 100000 in
set_option maxHeartbeats 2000000 in
theorem rderive_any (tbl : List Value) (htb : u32s (kTab ++ hTab) = tbl.toArray) (key l : List UInt8) (pss : List (List UInt8)) (vk vp : Value) (w : World) (hk : Bytes w vk key) (hp : PartsR w vp pss) (hkl : key.length ≤ 1000000) (hl : l.length ≤ 10000) (hn : pss.length ≤ 90) (hpl : ∀ p ∈ pss, p.length ≤ 10000) :
    Calls Tryd.prog 26 #[.agg tbl.toArray, vk, .string ⟨l.toArray⟩, vp] w fun e w' => e = .returned (.agg (u8s (hmac key (frame (l :: pss))))) ∧ Below w.heap.size w w' := by
  obtain ⟨z32, hz32⟩ : ∃ z, u8s (List.replicate 32 0) = z := ⟨_, rfl⟩
  have hz32v : ∀ W : World, (zeroValue 70).run Tryd.prog W = .ok (.agg z32) W := fun W => by rw [← hz32, zero32]; kernel_rfl
  have HST : Bx (TS ((w.alloc (.cells tbl.toArray 41)).alloc (.cells z32 70)) w.heap.size (w.heap.size + 1) tbl vk (.slice none 0 0) key [] ∧ Below w.heap.size w ((w.alloc (.cells tbl.toArray 41)).alloc (.cells z32 70)) ∧ PartsR ((w.alloc (.cells tbl.toArray 41)).alloc (.cells z32 70)) vp pss) := Bx.mk (by
    have hB : Below w.heap.size w ((w.alloc (.cells tbl.toArray 41)).alloc (.cells z32 70)) := ((Below.refl _ _).alloc (Nat.le_refl _) _).alloc (by simp) _
    exact ⟨⟨by rw [hold _ _ _ (by simp), hnew _ _ _ rfl], by rw [hnew _ _ _ (by simp), hz32], by omega, hk.later hB, ⟨none, 0, rfl, Nat.le_refl _, fun _ => rfl, fun h => by simp at h⟩, hkl, by simp, htb⟩, hB, hp.later hB⟩)
  have HL := Bx.mk (And.intro hl (And.intro hn hpl))
  obtain ⟨hm, hhm⟩ : ∃ hm, hmac key (frame (l :: pss)) = hm := ⟨_, rfl⟩
  have HHM := Bx.mk hhm
  rw [hhm]
  have HFL : Bx ((frame (l :: pss)).length ≤ 1000000) := Bx.mk (by
    have h2 := frame_len (l :: pss) 10000 (fun p hp => by rcases List.mem_cons.1 hp with rfl | hp; exact hl; exact hpl p hp)
    rw [List.length_cons] at h2
    omega)
  obtain ⟨ak, ck, hvk, -, -⟩ := bytes_form hk
  obtain ⟨nk, hnk⟩ : ∃ n, key.length = n := ⟨_, rfl⟩
  rw [hnk] at hvk
  clear hnk hk hkl hl hn hpl htb hz32 hhm hp
  subst hvk
  go_enter Tryd.func26, Tryd.ntmps26
  go_upto_region 1 with (fail)
  generalize (w.alloc (.cells tbl.toArray 41)).alloc (.cells z32 70) = w2 at *
  have HMk : Bx (∀ W, Below w2.heap.size w2 W → W.rangeAt w.heap.size 0 tbl ∧ Bx (Below w.heap.size w W)) := Bx.mk (fun W hb => ⟨HST.out.1.rng hb, ⟨HST.out.2.1.trans (hb.mono HST.out.2.1.size)⟩⟩)
  have hu32 := Tryd.underlying41
  have hi32 := tbl_size3 HST.out.1.is
  have HB0 : Bx (Below w2.heap.size w2 w2.drew) := Bx.mk (Below.refl _ _).drew
  have HRS : Bx (∀ W, Below w2.heap.size w2 W → W.heap[w.heap.size + 1]? = some (.cells (u8s (List.replicate 32 0)) 70 (0, 0))) := Bx.mk (fun W hb => by rw [hb.block _ (Array.getElem?_eq_some_iff.1 HST.out.1.res).1]; exact HST.out.1.res)
  clear hz32v
  refine wp_region_noPanic ?_
  refine wp_region_held_drew (S := fun W => W.rangeAt w.heap.size 0 tbl ∧ Bx (Below w.heap.size w W)) (by kernel_rfl) (HMk.out _ HB0.out) (fun hHeld => ?_)
  generalize w2.drew = W0 at *
  refine takeL 0 rfl (by kernel_rfl) (by kernel_rfl) (by kernel_rfl) (fun _ _ _ h => h) (yieldsIf_load_mid (by rfl) _ _ rfl _ _ rfl _ _ (fun w hSw => hSw.1) hu32 rfl hi32) hHeld ?_
  try simp only [Act.put, List.setIfInBounds_toArray, List.set_cons_zero, List.set_cons_succ]
  refine takeL 1 (v := ?_) rfl (by kernel_rfl) (by kernel_rfl) (by kernel_rfl) (fun _ _ _ h => h) (Or.inl ⟨by rfl, ?_⟩) hHeld ?_
  rotate_left 1
  · (intro w hSw; go_simp; try with_reducible rfl)
  try simp only [Act.put, List.setIfInBounds_toArray, List.set_cons_zero, List.set_cons_succ]
  refine takeL 2 (v := ?_) rfl (by kernel_rfl) (by kernel_rfl) (by kernel_rfl) (fun _ _ _ h => h) (Or.inl ⟨by rfl, ?_⟩) hHeld ?_
  rotate_left 1
  · (intro w hSw; go_simp; try with_reducible rfl)
  try simp only [Act.put, List.setIfInBounds_toArray, List.set_cons_zero, List.set_cons_succ]
  refine takeL 5 (v := ?_) rfl (by kernel_rfl) (by kernel_rfl) (by kernel_rfl) (fun _ _ _ h => h) (Or.inl ⟨by rfl, ?_⟩) hHeld ?_
  rotate_left 1
  · (intro w hSw; go_simp; try with_reducible rfl)
  try simp only [Act.put, List.setIfInBounds_toArray, List.set_cons_zero, List.set_cons_succ]
  refine stepL 3 (by kernel_rfl) rfl (fun K hK => ?_)
  refine step_strb (by rfl) _ rfl l (by rfl) ?_
  intro c3 W3 hy3 hb3
  have H3 : Bx (Below w2.heap.size w2 W3 ∧ Bytes W3 (.slice (some ⟨W0.heap.size, 0, none⟩) l.length c3) l) := Bx.mk ⟨HB0.out.trans (hb3.mono HB0.out.size), hy3⟩
  refine hK.out _ _ (HMk.out _ H3.out.1) (fun hHeld => ?_)
  clear hK K
  try simp only [Act.put, List.setIfInBounds_toArray, List.set_cons_zero, List.set_cons_succ]
  clear hy3 hb3
  obtain ⟨ll, hll⟩ : ∃ ll, l.length = ll := ⟨_, rfl⟩
  rw [hll] at H3 ⊢
  clear hll
  refine stepL 4 (by kernel_rfl) rfl (fun K hK => ?_)
  go_simp
  refine hK.out _ _ (HMk.out _ (H3.out.1.trans ((below_a _).mono H3.out.1.size))) (fun hHeld => ?_)
  clear hK K
  try simp only [Act.put, List.setIfInBounds_toArray, List.set_cons_zero, List.set_cons_succ]
  have H4 : Bx (Below w2.heap.size w2 (W3.alloc (.cells #[.slice (some ⟨W0.heap.size, 0, none⟩) ll c3] 22)) ∧ OwnP (W3.alloc (.cells #[.slice (some ⟨W0.heap.size, 0, none⟩) ll c3] 22)) W3.heap.size (.slice (some ⟨W3.heap.size, 0, none⟩) 1 1) [.slice (some ⟨W0.heap.size, 0, none⟩) ll c3] ∧ W3.heap.size ≤ (W3.alloc (.cells #[.slice (some ⟨W0.heap.size, 0, none⟩) ll c3] 22)).heap.size ∧ Below W3.heap.size W3 (W3.alloc (.cells #[.slice (some ⟨W0.heap.size, 0, none⟩) ll c3] 22))) := Bx.mk ⟨H3.out.1.trans ((below_a _).mono H3.out.1.size), ⟨rfl, .inr ⟨W3.heap.size, 1, _, rfl, Nat.le_refl _, hnew _ _ _ rfl, Nat.le_refl _, by unfold maxLen; omega, rfl, rfl⟩⟩, by simp, below_a _⟩
  generalize W3.alloc (.cells #[.slice (some ⟨W0.heap.size, 0, none⟩) ll c3] 22) = W4 at *
  obtain ⟨ys, hrow, hvals⟩ := HST.out.2.2
  have HYS := Bx.mk (And.intro hrow hvals)
  clear hrow hvals
  refine stepL 6 (by kernel_rfl) rfl (fun K hK => ?_)
  refine step_apP (by rfl) _ _ rfl W3.heap.size _ [.slice (some ⟨W0.heap.size, 0, none⟩) ll c3] (by rfl) H4.out.2.1 _ ys (by rfl) (HYS.out.1.later H4.out.1) (vals_one HYS.out.2) (by have h1 := HYS.out.2.1; have h2 := HL.out; simp only [List.length_cons, List.length_nil]; omega) H4.out.2.2.1 ?_
  intro v5 W5 ho5 hg5
  have H5 : Bx (Below w2.heap.size w2 W5 ∧ Parts W5 v5 (l :: pss)) := Bx.mk (by
    have hb := ownP_below H4.out.2.1 hg5 H4.out.2.2.1
    have hb35 : Below W3.heap.size W3 W5 := H4.out.2.2.2.trans hb
    have hb25 : Below w2.heap.size w2 W5 := H3.out.1.trans (hb35.mono H3.out.1.size)
    exact ⟨hb25, own_parts ho5 ((HYS.out.2.later hb25).cons (H3.out.2.later hb35))⟩)
  refine hK.out _ _ (HMk.out _ H5.out.1) (fun hHeld => ?_)
  clear hK K
  try simp only [Act.put, List.setIfInBounds_toArray, List.set_cons_zero, List.set_cons_succ]
  clear ho5 hg5 HYS H4 H3
  refine stepL 7 (by kernel_rfl) rfl (fun K hK => ?_)
  go_simp
  refine (rframe_any (l :: pss) v5 W5 H5.out.2 (by have := HL.out; rw [List.length_cons]; omega) (fun p hp => by have h := HL.out; rcases List.mem_cons.1 hp with rfl | hp; exact h.1; exact h.2.2 p hp)).mono ?_
  rintro e W6 ⟨v6, rfl, ho6, hb6⟩
  show K _ _
  have H6 : Bx (Below w2.heap.size w2 W6 ∧ Bytes W6 v6 (frame (l :: pss))) := Bx.mk ⟨H5.out.1.trans (hb6.mono H5.out.1.size), ho6.bytes⟩
  refine hK.out _ _ (HMk.out _ H6.out.1) (fun hHeld => ?_)
  clear hK K
  try simp only [Act.put, List.setIfInBounds_toArray, List.set_cons_zero, List.set_cons_succ]
  clear ho6 hb6 H5
  refine stepL 8 (by kernel_rfl) rfl (fun K hK => ?_)
  go_simp
  refine (rtag_any tbl HST.out.1.is key (frame (l :: pss)) _ v6 W6 (HST.out.1.hkey.later H6.out.1) H6.out.2 HST.out.1.kl HFL.out).mono ?_
  rintro e W7 ⟨rfl, hb7⟩
  show K _ _
  have H7 : Bx (Below w2.heap.size w2 W7) := Bx.mk (H6.out.1.trans (hb7.mono H6.out.1.size))
  refine hK.out _ _ (HMk.out _ H7.out) (fun hHeld => ?_)
  clear hK K
  try simp only [Act.put, List.setIfInBounds_toArray, List.set_cons_zero, List.set_cons_succ]
  clear hb7 H6
  have HML : Bx (hm.length = 32) := Bx.mk (by rw [← HHM.out]; exact sha_length _)
  rw [HHM.out]
  have HI3 : Bx ((Tryd.prog.info? 70).map (·.size) = some (u8s hm).size) := Bx.mk (by rw [u8s_size, HML.out]; kernel_rfl)
  have HR7 := Bx.mk (HRS.out _ H7.out)
  have Hd : Bx (Below w.heap.size w (W7.setCells (w.heap.size + 1) 0 (u8s hm).toList) ∧ (W7.setCells (w.heap.size + 1) 0 (u8s hm).toList).heap[w.heap.size + 1]? = some (.cells (u8s hm) 70 (0, 0))) := Bx.mk ⟨below_setCells (by omega) _ _ _ _ (HST.out.2.1.trans (H7.out.mono HST.out.2.1.size)), heap_setCells_all HR7.out (by rw [u8s_size, u8s_size, HML.out]; rfl)⟩
  have Hr : Bx ((W7.setCells (w.heap.size + 1) 0 (u8s hm).toList).rangeAt w.heap.size 0 tbl) := Bx.mk (fun j v hv => by
    have hx := (HMk.out _ H7.out).1 j v hv
    rw [← hx]
    show World.cell? _ _ = _
    unfold World.cell?
    rw [heap_setCells_other (w.heap.size + 1) w.heap.size (by omega)])
  refine stepL 9 (by kernel_rfl) rfl (fun K hK => ?_)
  refine step_st rfl 70 _ _ rfl (w.heap.size + 1) (u8s hm) (by rfl) (by rfl) (there_row HR7.out 0 _ (by rw [u8s_size, u8s_size, HML.out]; simp)) HI3.out (one_u8s _) ?_
  refine hK.out _ _ ⟨Hr.out, ⟨Hd.out.1⟩⟩ (fun hHeld => ?_)
  refine wpAnyH_done (by kernel_rfl) ?_ _
  refine NoPanic.normal ?_
  clear hK K hHeld
  go_wp2
  refine bodyPost_ret (results_cell_row rfl _ _ (w.heap.size + 1) _ (u8s hm) _ _ rfl Hd.out.2 Tryd.underlying70 rfl HI3.out) rfl ?_
  exact ⟨rfl, Hd.out.1⟩
end Go.Proofs.YtncbhnkhbohejaaDoor
