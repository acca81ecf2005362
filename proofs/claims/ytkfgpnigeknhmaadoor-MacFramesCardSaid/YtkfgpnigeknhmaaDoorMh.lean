/-
  The walk of the document's filled.
-/
import Derived.Test.YtkfgpnigeknhmaaDoorMd
namespace Go.Proofs.YtkfgpnigeknhmaaDoor
open Go Go.RowKit
/-- The places, k of which are filled and turned. -/
def fo (b : UInt8) (l : List UInt8) (k : Nat) : List UInt8 := (turn b l).take k ++ List.replicate (64 - k) 0
theorem fo_length (b : UInt8) (l : List UInt8) (k : Nat) (hl : l.length = 64) (hk : k ≤ 64) : (fo b l k).length = 64 := by
  unfold fo
  rw [List.length_append, List.length_take, List.length_replicate, turn_length, hl]
  omega
theorem fo_get (b : UInt8) (l : List UInt8) (k : Nat) (hl : l.length = 64) (hk : k < 64) : (fo b l k).getD k 0 = 0 := by
  unfold fo
  have h : ((turn b l).take k).length = k := by rw [List.length_take, turn_length]; omega
  rw [List.getD_eq_getElem?_getD, List.getElem?_append_right (by omega), h, Nat.sub_self, List.getElem?_replicate, if_pos (by omega)]
  rfl
theorem fo_succ (b : UInt8) (l : List UInt8) (k : Nat) (hl : l.length = 64) (hk : k < 64) : (fo b l k).set k (l.getD k 0 ^^^ b) = fo b l (k + 1) := by
  unfold fo
  have h : ((turn b l).take k).length = k := by rw [List.length_take, turn_length]; omega
  have hk' : k < (turn b l).length := by rw [turn_length]; omega
  rw [show 64 - k = (64 - (k + 1)) + 1 by omega, List.replicate_succ, List.set_append_right _ _ (by omega), h, Nat.sub_self, List.set_cons_zero, List.take_succ_eq_append_getElem hk', List.append_assoc]
  congr 1
  show _ = (turn b l)[k] :: List.replicate (64 - (k + 1)) 0
  congr 1
  have h2 : k < l.length := by omega
  simp [turn, h2]
theorem fo_all (b : UInt8) (l : List UInt8) (hl : l.length = 64) : fo b l 64 = turn b l := by
  unfold fo
  rw [List.take_of_length_le (by rw [turn_length]; omega)]
  simp
theorem fillK_get (k : List UInt8) (i : Nat) (hk : k.length ≤ 64) (hi : i < 64) : (fillK k).getD i 0 = if i < k.length then k.getD i 0 else 0 := by
  unfold fillK
  by_cases h : i < k.length
  · rw [if_pos h, List.getD_eq_getElem?_getD, List.getElem?_append_left h, ← List.getD_eq_getElem?_getD]
  · rw [if_neg h, List.getD_eq_getElem?_getD, List.getElem?_append_right (by omega), List.getElem?_replicate]
    split <;> rfl
theorem uint8_xor_zero (b : UInt8) : (0 : UInt8) ^^^ b = b := by simp
/-- The document's table in its own block. -/
structure RT (w : World) (tbl : List Value) (W : World) : Prop where
  below : Below w.heap.size w W
  size : w.heap.size < W.heap.size
  row : W.heap[w.heap.size]? = some (.cells tbl.toArray 32 (0, 0))
theorem RT.later {w W W1 : World} {tbl : List Value} (h : RT w tbl W) (hb : Below W.heap.size W W1) : RT w tbl W1 :=
  ⟨h.below.trans (hb.mono h.below.size), Nat.lt_of_lt_of_le h.size hb.size, by rw [hb.block _ h.size]; exact h.row⟩
set_option maxRecDepth 100000 in
theorem open43 {a : Act} (h : Fr 43 a) : ∃ x : Nat → Value, a = ⟨List.toArray (x 0 :: x 1 :: x 2 :: x 3 :: x 4 :: x 5 :: x 6 :: x 7 :: x 8 :: x 9 :: x 10 :: x 11 :: x 12 :: x 13 :: x 14 :: x 15 :: x 16 :: x 17 :: x 18 :: x 19 :: x 20 :: x 21 :: x 22 :: x 23 :: x 24 :: x 25 :: x 26 :: x 27 :: x 28 :: x 29 :: x 30 :: x 31 :: x 32 :: x 33 :: x 34 :: x 35 :: x 36 :: x 37 :: x 38 :: x 39 :: x 40 :: x 41 :: x 42 :: []), []⟩ ∧ ∀ i, a.eval (.tmp i) = x i := ⟨fun i => a.tmps.getD i undef, h.form, fun _ => rfl⟩
/-- At the head of each byte. -/
structure IFl (va : Value) (b : UInt8) (M : Nat) (W0 : World) (ks : List UInt8) (k : Nat) (a : Act) (wr : World) : Prop where
  fr : Fr 43 a
  s1 : a.eval (.tmp 1) = va
  s2 : a.eval (.tmp 2) = .int .u8 (ub b)
  s8 : a.eval (.tmp 8) = .slice (some ⟨M, 0, none⟩) 64 64
  s9 : a.eval (.tmp 9) = .int .i64 (k : Int)
  row : wr.heap[M]? = some (.cells (u8s (fo b (fillK ks) k)) 5 (0, 0))
  kept : W0.grownBy wr (some M)
set_option maxRecDepth 100000 in
set_option maxHeartbeats 1000000 in
theorem roundFl (ad : Option Addr) (n cap : Nat) (b : UInt8) (M : Nat) (W0 : World) (ks : List UInt8) (Q : Exit → Act → World → Prop) (hb : BytesAt W0 M (.slice ad n cap) ks) (hn : ks.length = n) (hn64 : n ≤ 64)
    (k : Nat) (hk : k < 64) (a : Act) (wr : World) (h : IFl (.slice ad n cap) b M W0 ks k a wr) :
    Code.wp Tryd.prog (loopAt Tryd.f45.body 0) (Exit.then (fun a' w' => IFl (.slice ad n cap) b M W0 ks (k + 1) a' w') Q) a wr := by
  have hfl := fillK_length ks (by omega)
  have c1 : wr.cell? ⟨M, k, none⟩ = some (.int .u8 (ub ((fo b (fillK ks) k).getD k 0))) := by rw [cell_of_row _ _ _ _ _ _ h.row]; exact u8s_get _ _ (by rw [fo_length _ _ _ hfl (by omega)]; exact hk)
  rw [fo_get b _ k hfl hk] at c1
  have f1 := frozen_of_row wr M k _ _ h.row
  have HS : Bx (∀ y, ((wr.setCell ⟨M, k, none⟩ (.int .u8 (ub y))).setCell ⟨M, k, none⟩ (.int .u8 (ub ((fillK ks).getD k 0 ^^^ b)))).heap[M]? = some (.cells (u8s (fo b (fillK ks) (k + 1))) 5 (0, 0))) := Bx.mk (fun y => by
    rw [heap_setCell_same _ _ _ _ _ _ (heap_setCell_same wr _ _ _ _ _ h.row), u8s_set, u8s_set, List.set_set, fo_succ b _ k hfl hk])
  have HS0 : Bx ((wr.setCell ⟨M, k, none⟩ (.int .u8 (ub ((fillK ks).getD k 0 ^^^ b)))).heap[M]? = some (.cells (u8s (fo b (fillK ks) (k + 1))) 5 (0, 0))) := Bx.mk (by
    rw [heap_setCell_same wr _ _ _ _ _ h.row, u8s_set, fo_succ b _ k hfl hk])
  have hget := fillK_get ks k (by omega) hk
  have hrow := h.row
  have hfo := fo_length b (fillK ks) k hfl (by omega)
  have HK := Bx.mk h.kept
  have hk1 : (k : Int) < 64 := by omega
  have hb2 := hb.later h.kept
  obtain ⟨x, rfl, hx⟩ := open43 h.fr
  have e1 := (hx 1).symm.trans h.s1
  have e2 := (hx 2).symm.trans h.s2
  have e8 := (hx 8).symm.trans h.s8
  have e9 := (hx 9).symm.trans h.s9
  clear h hx
  rw [e1, e2, e8, e9]
  clear e1 e2 e8 e9
  by_cases hkn : k < n
  · rw [if_pos (by omega)] at hget
    rw [hget] at HS
    obtain ⟨a', cap', hv', -, hr'⟩ := hb2
    injection hv' with q1 q2 q3
    obtain ⟨g, o, hne, ha, hcell⟩ := hr' (by omega)
    subst q1
    subst ha
    have c2 := hcell k (by omega)
    generalize ks.getD k 0 = y at *
    clear HS0 hget hcell hr' q2 q3 hb hfl
    have t1 : (k : Int) < (n : Int) := by omega
    have c3 : (wr.setCell ⟨M, k, none⟩ (.int .u8 (ub y))).cell? ⟨M, k, none⟩ = some (.int .u8 (ub y)) := by
      rw [cell_of_row _ _ _ _ _ _ (heap_setCell_same wr _ _ _ _ _ hrow)]
      exact by rw [u8s_set, u8s_get _ _ (by rw [List.length_set, hfo]; exact hk)]; simp [hfo, hk]
    clear hrow hfo
    have f3 : (wr.setCell ⟨M, k, none⟩ (.int .u8 (ub y))).frozen? ⟨M, k, none⟩ = false := by simpa using f1
    conv => arg 2; whnf
    go_wp2
    exact ⟨⟨rfl, rfl⟩, rfl, rfl, rfl, by go_num, by first | (rw [ub_xor]; exact HS.out y) | (rw [ub_xor, ub_mod]; exact HS.out y), kb_trans (kb_trans HK.out (kb_setCell _ _ _)) (kb_setCell _ _ _)⟩
  · rw [if_neg (by omega)] at hget
    rw [hget] at HS0
    clear HS hget hb2 hb hfl hrow hfo
    have t1 : ¬ (k : Int) < (n : Int) := by omega
    have z0 : ub 0 = 0 := rfl
    rw [z0] at c1
    have HX : Bx (bits BinOp.xor IntKind.u8 0 (ub b) = ub (0 ^^^ b)) := Bx.mk (by rw [← ub_xor]; rfl)
    conv => arg 2; whnf
    go_wp2
    exact ⟨⟨rfl, rfl⟩, rfl, rfl, rfl, by go_num, by first | (rw [HX.out]; exact HS0.out) | (rw [HX.out, ub_mod]; exact HS0.out) | (rw [uint8_xor_zero] at HS0; exact HS0.out), kb_trans HK.out (kb_setCell _ _ _)⟩
set_option maxRecDepth 100000 in
theorem lastFl (va : Value) (b : UInt8) (M : Nat) (W0 : World) (ks : List UInt8) (Q : Exit → Act → World → Prop) (N : Act → World → Prop)
    (hq : ∀ a' w', IFl va b M W0 ks 64 a' w' → Q (.exit 0) a' w') (a : Act) (wr : World) (h : IFl va b M W0 ks 64 a wr) : Code.wp Tryd.prog (loopAt Tryd.f45.body 0) (Exit.then N Q) a wr := by
  have HR := Bx.mk h.row
  have HK := Bx.mk h.kept
  have HQ := Bx.mk hq
  clear hq
  obtain ⟨x, rfl, hx⟩ := open43 h.fr
  have e1 := (hx 1).symm.trans h.s1
  have e2 := (hx 2).symm.trans h.s2
  have e8 := (hx 8).symm.trans h.s8
  have e9 : x 9 = .int .i64 64 := (hx 9).symm.trans h.s9
  clear h hx
  rw [e1, e2, e8, e9]
  clear e1 e2 e8 e9
  conv => arg 2; whnf
  go_wp2
  exact HQ.out _ _ ⟨⟨rfl, rfl⟩, rfl, rfl, rfl, rfl, HR.out, HK.out⟩
theorem loopFl (ad : Option Addr) (n cap : Nat) (b : UInt8) (M : Nat) (W0 : World) (ks : List UInt8) (Q : Exit → Act → World → Prop) (hb : BytesAt W0 M (.slice ad n cap) ks) (hn : ks.length = n) (hn64 : n ≤ 64)
    (a : Act) (wr : World) (h : IFl (.slice ad n cap) b M W0 ks 0 a wr) (hq : ∀ a' w', IFl (.slice ad n cap) b M W0 ks 64 a' w' → Q (.exit 0) a' w') :
    Code.wp Tryd.prog (.loop (loopAt Tryd.f45.body 0)) Q a wr :=
  wp_count 64 (fun k => IFl (.slice ad n cap) b M W0 ks k) 0 (by omega) h (fun k a w hlt hI => roundFl ad n cap b M W0 ks Q hb hn hn64 k hlt a w hI) (fun a w hI => lastFl _ b M W0 ks Q _ hq a w hI)
theorem own_row {w : World} {base M n : Nat} {l : List UInt8} (h : OwnB w base (.slice (some ⟨M, 0, none⟩) n n) l) : w.heap[M]? = some (.cells (u8s l) 5 (0, 0)) := by
  have hl : l.length = n := by
    obtain ⟨_, _, hv, _⟩ := h.bytes
    injection hv with _ e _
    exact e.symm
  rcases h.2 with ⟨hv, _⟩ | ⟨g, cap, cur, hv, hb, hg, h1, h2, h3, h4⟩
  · cases hv
  · injection hv with e1 e2 e3
    injection e1 with e1
    injection e1 with e1
    subst e1 e3
    rw [hg]
    have : cur = u8s l := by
      apply Array.toList_inj.1
      rw [← h4, List.take_of_length_le (by rw [Array.length_toList, h3, hl]; omega)]
    rw [this]
theorem row_own {w : World} {base M n : Nat} {l : List UInt8} (h : w.heap[M]? = some (.cells (u8s l) 5 (0, 0))) (hn : l.length = n) (hb : base ≤ M) (hm : n ≤ 1000000) : OwnB w base (.slice (some ⟨M, 0, none⟩) n n) l := by
  subst hn
  exact ⟨by rw [Array.length_toList, u8s_size, Nat.mul_one], .inr ⟨M, l.length, u8s l, rfl, hb, h, Nat.le_refl _, by unfold maxLen; omega, by rw [u8s_size, Nat.mul_one], by rw [Nat.mul_one, List.take_of_length_le (by rw [Array.length_toList, u8s_size]; omega)]⟩⟩
theorem made64 : (madeCells (Value.int .u8 0).cells (64 * 1)).toList = (u8s (List.replicate 64 0)).toList := by kernel_rfl
theorem tbl_size2 {tbl : List Value} (h : u32s (kTab ++ hTab) = tbl.toArray) : (Tryd.prog.info? 32).map (·.size) = some tbl.toArray.size := by
  have h3 : (Tryd.prog.info? 32).map (·.size) = some 72 := by kernel_rfl
  have h2 : tbl.toArray.size = 72 := by rw [← h, u32s_size]; rfl
  rw [h2]
  exact h3
/-- What filled hands back. -/
def FilP (w : World) (b : UInt8) (key : List UInt8) (e : Ending) (w' : World) : Prop := ∃ M, e = .returned (.slice (some ⟨M, 0, none⟩) 64 64) ∧ OwnB w' w.heap.size (.slice (some ⟨M, 0, none⟩) 64 64) (turn b (keyB key)) ∧ Below w.heap.size w w'
set_option maxRecDepth 100000 in
set_option maxHeartbeats 1000000 in
theorem rfilled_any (tbl : List Value) (htb : u32s (kTab ++ hTab) = tbl.toArray) (key : List UInt8) (b : UInt8) (v : Value) (w : World) (hv : Bytes w v key) (hl : key.length ≤ 1000000) :
    Calls Tryd.prog 45 #[.agg tbl.toArray, v, .int .u8 (ub b)] w (FilP w b key) := by
  have HV := Bx.mk hv
  have HTB := Bx.mk htb
  obtain ⟨a, cap, rfl, -⟩ := hv
  obtain ⟨n, hn⟩ : ∃ n, key.length = n := ⟨_, rfl⟩
  have HN := Bx.mk hn
  rw [hn] at HV hl ⊢
  have hn1 : (n : Int) ≤ 1000000 := by omega
  clear hn htb
  have HT0 : Bx (RT w tbl (w.alloc (.cells tbl.toArray 32))) := Bx.mk ⟨below_a _, by simp, hnew _ _ _ rfl⟩
  obtain ⟨i0, hi0, hz0, hz1, hz2⟩ := info_parts (P := Tryd.prog) (e := 5) (z := .int .u8 0) (size := 1) (bytes := 1) (by kernel_rfl)
  go_enter Tryd.func45, Tryd.ntmps45
  by_cases hlt : 64 < n
  · have t1 : (64 : Int) < (n : Int) := by omega
    have HIT := Bx.mk (tbl_size2 HTB.out)
    go_upto_region 2 with (fail)
    have HV2 : Bx (Bytes (w.alloc (.cells tbl.toArray 32)) (.slice a n cap) key) := Bx.mk (HV.out.later (below_a _))
    generalize w.alloc (.cells tbl.toArray 32) = w1 at *
    go_wp2_with (refine wpList_load_row rfl 32 _ rfl w.heap.size (by rfl) _ _ _ _ HT0.out.row Tryd.underlying32 rfl HIT.out ?_)
    have HR : Bx (Calls Tryd.prog 12 #[.agg tbl.toArray, .slice a n cap] w1 fun e w' => e = .returned (.agg (u8s (sha key))) ∧ Below w1.heap.size w1 w') := Bx.mk (by rw [← HTB.out]; exact rsum_any key _ w1 HV2.out (by rw [HN.out]; omega))
    refine HR.out.mono ?_
    rintro e w2 ⟨rfl, hb2⟩
    have H2 : Bx (RT w tbl w2) := Bx.mk (HT0.out.later hb2)
    clear hb2 HR
    have HSL : Bx ((sha key).length = 32) := Bx.mk (sha_length _)
    have HKs : Bx (fillK (sha key) = keyB key) := Bx.mk (by unfold keyB shortK; rw [if_pos (by rw [HN.out]; exact hlt)])
    generalize sha key = sk at *
    have HI3 : Bx ((Tryd.prog.info? 26).map (·.size) = some (u8s sk).size) := Bx.mk (by rw [u8s_size, HSL.out]; kernel_rfl)
    have HZ3 : Bx ((u8s sk).size = (u8s (List.replicate 32 0)).size) := Bx.mk (by rw [u8s_size, u8s_size, HSL.out]; rfl)
    go_upto_region 4 with (refine wpList_store_var rfl 26 _ _ rfl w2 _ _ rfl (by rfl) (u8s sk) (by rfl) HZ3.out HI3.out (one_u8s _) ?_; intro w3 hb3 hr3 hl3)
    have HX0 : Bx (Below w.heap.size w w3 ∧ Bytes w3 (.slice (some ⟨w2.heap.size, 0, none⟩) 32 32) sk ∧ sk.length = 32 ∧ fillK sk = keyB key) := Bx.mk ⟨(H2.out.later hb3).below, row_bytes hr3 HSL.out, HSL.out, HKs.out⟩
    have HN64 : Bx (32 ≤ 64) := Bx.mk (by omega)
    clear hb3 hr3 hl3 H2 HV HV2 HSL HKs HI3 HZ3 HT0 HIT
    generalize w2.heap.size = D at *
    have HX : Bx (Below w.heap.size w w3 ∧ Bytes w3 (.slice (some ⟨D, 0, none⟩) 32 32) sk ∧ sk.length = 32 ∧ fillK sk = keyB key) := HX0
    clear HX0
    go_wp2_with (refine wpList_make_full w3 rfl _ _ 23 rfl w.heap.size 5 i0 _ 1 Tryd.underlying23 hi0 hz0 hz1 .i64 .i64 64 64 64 (by rfl) (by rfl) rfl rfl (by rw [hz2]; omega) (by unfold maxLen; omega) HX.out.1.size ?_; intro w5 ho5 hg5)
    have H5 : Bx (w5.heap[w3.heap.size]? = some (.cells (u8s (List.replicate 64 0)) 5 (0, 0)) ∧ Below w3.heap.size w3 w5) := Bx.mk ⟨own_row (base := w.heap.size) (by have h := ho5; rw [made64] at h; exact h), ⟨hg5.os, hg5.tape, hg5.output, hg5.size, fun i hi => hg5.block i hi (by intro e; cases e)⟩⟩
    clear ho5 hg5
    have HBA : Bx (BytesAt w5 w3.heap.size (.slice (some ⟨D, 0, none⟩) 32 32) sk) := Bx.mk (HX.out.2.1.apart H5.out.2 _ (Nat.le_refl _))
    refine loopFl (some ⟨D, 0, none⟩) 32 32 b w3.heap.size w5 sk _ HBA.out HX.out.2.2.1 HN64.out _ _ ⟨⟨rfl, rfl⟩, rfl, rfl, rfl, rfl, by rw [show fo b (fillK sk) 0 = List.replicate 64 0 from rfl]; exact H5.out.1, kb_refl _ _⟩ ?_
    intro a' w6 hI
    have H6 : Bx (OwnB w6 w.heap.size (.slice (some ⟨w3.heap.size, 0, none⟩) 64 64) (turn b (keyB key)) ∧ Below w.heap.size w w6) := Bx.mk ⟨row_own (by have h := hI.row; rw [fo_all b _ (fillK_length _ (by have := HX.out.2.2.1; have := HN64.out; omega)), HX.out.2.2.2] at h; exact h) (by rw [turn_length, keyB_length]) HX.out.1.size (by omega), below_kb (HX.out.1.trans (H5.out.2.mono HX.out.1.size)) (Nat.le_trans HX.out.1.size H5.out.2.size) hI.kept HX.out.1.size⟩
    obtain ⟨x, rfl, hx⟩ := open43 hI.fr
    have e8 := (hx 8).symm.trans hI.s8
    clear hI hx
    rw [e8]
    clear e8
    go_wp2
    go_ret
    exact ⟨_, rfl, H6.out⟩
  · have t1 : ¬ (64 : Int) < (n : Int) := by omega
    go_upto_region 4 with (fail)
    have HX0 : Bx (Below w.heap.size w (w.alloc (.cells tbl.toArray 32)) ∧ Bytes (w.alloc (.cells tbl.toArray 32)) (.slice a n cap) key ∧ key.length = n ∧ fillK key = keyB key) := Bx.mk ⟨below_a _, HV.out.later (below_a _), HN.out, by unfold keyB shortK; rw [if_neg (by rw [HN.out]; exact hlt)]⟩
    generalize w.alloc (.cells tbl.toArray 32) = w3 at *
    have HN64 : Bx (n ≤ 64) := Bx.mk (by omega)
    clear HV HT0
    have HX : Bx (Below w.heap.size w w3 ∧ Bytes w3 (.slice a n cap) key ∧ key.length = n ∧ fillK key = keyB key) := HX0
    clear HX0
    go_wp2_with (refine wpList_make_full w3 rfl _ _ 23 rfl w.heap.size 5 i0 _ 1 Tryd.underlying23 hi0 hz0 hz1 .i64 .i64 64 64 64 (by rfl) (by rfl) rfl rfl (by rw [hz2]; omega) (by unfold maxLen; omega) HX.out.1.size ?_; intro w5 ho5 hg5)
    have H5 : Bx (w5.heap[w3.heap.size]? = some (.cells (u8s (List.replicate 64 0)) 5 (0, 0)) ∧ Below w3.heap.size w3 w5) := Bx.mk ⟨own_row (base := w.heap.size) (by have h := ho5; rw [made64] at h; exact h), ⟨hg5.os, hg5.tape, hg5.output, hg5.size, fun i hi => hg5.block i hi (by intro e; cases e)⟩⟩
    clear ho5 hg5
    have HBA : Bx (BytesAt w5 w3.heap.size (.slice a n cap) key) := Bx.mk (HX.out.2.1.apart H5.out.2 _ (Nat.le_refl _))
    refine loopFl a n cap b w3.heap.size w5 key _ HBA.out HX.out.2.2.1 HN64.out _ _ ⟨⟨rfl, rfl⟩, rfl, rfl, rfl, rfl, by rw [show fo b (fillK key) 0 = List.replicate 64 0 from rfl]; exact H5.out.1, kb_refl _ _⟩ ?_
    intro a' w6 hI
    have H6 : Bx (OwnB w6 w.heap.size (.slice (some ⟨w3.heap.size, 0, none⟩) 64 64) (turn b (keyB key)) ∧ Below w.heap.size w w6) := Bx.mk ⟨row_own (by have h := hI.row; rw [fo_all b _ (fillK_length _ (by have := HX.out.2.2.1; have := HN64.out; omega)), HX.out.2.2.2] at h; exact h) (by rw [turn_length, keyB_length]) HX.out.1.size (by omega), below_kb (HX.out.1.trans (H5.out.2.mono HX.out.1.size)) (Nat.le_trans HX.out.1.size H5.out.2.size) hI.kept HX.out.1.size⟩
    obtain ⟨x, rfl, hx⟩ := open43 hI.fr
    have e8 := (hx 8).symm.trans hI.s8
    clear hI hx
    rw [e8]
    clear e8
    go_wp2
    go_ret
    exact ⟨_, rfl, H6.out⟩
end Go.Proofs.YtkfgpnigeknhmaaDoor
