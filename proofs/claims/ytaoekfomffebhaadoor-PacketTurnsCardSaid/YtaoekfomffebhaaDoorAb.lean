/-
  The walks of a running digest, bytes that a call owns, bytes compared.
-/
import Derived.Test.YtaoekfomffebhaaDoorAa
import Derived.Maps.AppendAt
import Derived.Laws.AppendOwnNone
import Derived.Lib.BufferRead
import Derived.Laws.IdiomStrings
import Derived.RegionTactic
namespace Go.Proofs.YtaoekfomffebhaaDoor
open Go Go.RowKit
/-- What a state in block b has become. -/
def Took (w : World) (b : Nat) (T : TypeId) (bs : List UInt8) (w' : World) : Prop :=
  ∃ ws rest, w'.heap[b]? = some (.cells (stC ws rest bs.length) T (0, 0)) ∧ StIs bs ws rest ∧ w.grownBy w' (some b)
/-- At the head of each round. -/
def TkRel (w : World) (b : Nat) (T : TypeId) (bs ps : List UInt8) (v : Value) (wr : World) : Prop :=
  ∃ k, k ≤ ps.length ∧ BytesAt wr b v (ps.drop k) ∧ Took w b T (bs ++ ps.take k) wr
theorem tk_next {w wr w3 : World} {b : Nat} {T : TypeId} {bs ps rem b0 : List UInt8} {v1 : Value} {k n t : Nat} {ws' : List (BitVec 32)} {rest' : List UInt8}
    (hk : k ≤ ps.length) (hn : n ≤ rem.length) (hrem : ps.drop k = rem) (hb0 : bs ++ ps.take k = b0) (ht : b0.length = t) (hbv : BytesAt wr b v1 (rem.drop n)) (hg0 : w.grownBy wr (some b)) (hg : wr.grownBy w3 (some b))
    (hh : w3.heap[b]? = some (.cells (stC ws' rest' (t + n)) T (0, 0))) (hs : StIs (b0 ++ rem.take n) ws' rest') : TkRel w b T bs ps v1 w3 := by
  have hl : rem.length = ps.length - k := by rw [← hrem, List.length_drop]
  have e1 : rem.drop n = ps.drop (k + n) := by rw [← hrem, List.drop_drop]
  have e2 : b0 ++ rem.take n = bs ++ ps.take (k + n) := by rw [← hb0, ← hrem, List.append_assoc, List.take_add]
  refine ⟨k + n, by omega, by rw [← e1]; exact hbv.later hg, ws', rest', ?_, by rw [← e2]; exact hs, kb_trans hg0 hg⟩
  rw [← e2, List.length_append, List.length_take, ht, Nat.min_eq_left hn]
  exact hh
theorem sk {w2 W : World} {b : Nat} {T : TypeId} {ws : List (BitVec 32)} {re : List UInt8} {t : Nat} (H2 : w2.heap[b]? = some (.cells (stC ws re t) T (0, 0))) (h8 : ws.length = 8) (h64 : re.length = 64) (e : W.heap[b]? = w2.heap[b]?) :
    W.rangeAt b 8 (u8s re).toList ∧ W.there b 0 8 :=
  ⟨st_range8 (by rw [e]; exact H2) h8 h64, there_row (by rw [e]; exact H2) 0 8 (by rw [stC_size _ _ _ h8 h64]; omega)⟩
theorem sk_set {W : World} {b : Nat} {re : List UInt8} {vs : List Value} (hv : vs.length = 8) (h : W.rangeAt b 8 (u8s re).toList ∧ W.there b 0 8) :
    (W.setCells b 0 vs).rangeAt b 8 (u8s re).toList ∧ (W.setCells b 0 vs).there b 0 8 :=
  ⟨World.rangeAt_setCells_apart h.1 _ _ _ (by omega), World.there_setCells h.2 _ _ _⟩
theorem st8 {P : Program} (W : World) (b : Nat) (m : List (BitVec 32)) (hm : m.length = 8) (h : W.there b 0 8) : (storeCells ⟨b, 0, none⟩ (u32s m).toList).run P W = .ok () (W.setCells b 0 (u32s m).toList) := by
  have l8 : (u32s m).toList.length = 8 := by rw [Array.length_toList, u32s_size, hm]
  have := run_storeCells_cells (P := P) b 0 (u32s m).toList 0 W (fun j hj => by have := (h j (by omega)).1; simpa using this) (fun j hj => by have := (h j (by omega)).2; simpa using this) (fun v hv => by
    have h1 := one_u32s m
    rw [Array.all_eq_true'] at h1
    exact h1 v (by simpa using hv))
  simpa using this
attribute [local go_sem ↓] Go.wp_at_zero Go.wp_at_succ
set_option maxRecDepth 100000 in
set_option maxHeartbeats 1000000 in
theorem take_any (b : Nat) (T : TypeId) (bs ps : List UInt8) (v : Value) (w : World) (hT : Took w b T bs w) (hv : BytesAt w b v ps) (hN : bs.length + ps.length < 2305843009213693952) (hTab : Tab w) (hg : 1 ≠ b) :
    Calls Tryd.prog 83 #[.pointer (some ⟨b, 0, none⟩), v] w fun e w' => e = .returned (.tuple #[]) ∧ Took w b T (bs ++ ps) w' := by
  have H0 : Bx (TkRel w b T bs ps v w) := Bx.mk ⟨0, Nat.zero_le _, hv, by simpa using hT⟩
  have HA := Bx.mk hTab
  have HG := Bx.mk hg
  have HM := Bx.mk hN
  clear hT hv hTab hg hN
  go_enter Tryd.func83, Tryd.ntmps83
  go_wp2
  go_loopw [1] (fun v wr => TkRel w b T bs ps v wr) (fun v _ => lenV v)
  case atStart => exact H0.out
  case round =>
    clear H0
    obtain ⟨k, hk, hv, ws, rest, hb, hst, hgr⟩ := hrel
    obtain ⟨a, cap, rfl, hcap, hcells⟩ := hv
    obtain ⟨rem, hrem⟩ : ∃ rem, ps.drop k = rem := ⟨_, rfl⟩
    rw [hrem] at hcap hcells
    rw [hrem]
    by_cases hz : 0 < rem.length
    · obtain ⟨c, o, hne, rfl, hcell⟩ := hcells hz
      clear hcells
      obtain ⟨b0, hb0⟩ : ∃ b0, bs ++ ps.take k = b0 := ⟨_, rfl⟩
      rw [hb0] at hb hst
      obtain ⟨t, ht⟩ : ∃ t, b0.length = t := ⟨_, rfl⟩
      rw [ht] at hb
      have hlen : rem.length = ps.length - k := by rw [← hrem, List.length_drop]
      have htl : t = bs.length + k := by rw [← ht, ← hb0]; simp; omega
      have h8 := hst.w8
      have h64 := hst.r64
      have ct : wr.cell? ⟨b, 72, none⟩ = some (.int .u64 (t : Int)) := by rw [cell_of_row _ _ _ _ _ _ hb]; exact stC_told ws rest t h8 h64
      obtain ⟨h, hh⟩ : ∃ h, t % 64 = h := ⟨_, rfl⟩
      have hh64 : h < 64 := by omega
      have eh : (t : Int) % 64 = (h : Int) := by omega
      obtain ⟨n, hn⟩ : ∃ n, n = min rem.length (64 - h) := ⟨_, rfl⟩
      obtain ⟨L, hL⟩ : ∃ L, L = rem.length := ⟨_, rfl⟩
      rw [← hL] at hn hcap hz ⊢
      obtain ⟨v1, hv1, hbv, hl1⟩ := sl_bytes wr b c o L cap n rem hL hcap (by omega) hne hcell
      have hsl := fun W => sl64 W b 8 h (h : Int) rfl hh64
      have H8 := Bx.mk h8
      have H64 := Bx.mk h64
      have HB := Bx.mk hb
      have HL := Bx.mk hL
      have HN := Bx.mk hn
      have HC := Bx.mk hcell
      have HX := Bx.mk (And.intro hst (And.intro hgr (And.intro hbv (And.intro hl1 (And.intro htl (And.intro hh (And.intro hrem (And.intro hb0 (And.intro ht hlen)))))))))
      have hz1 : (0 : Int) < (L : Int) := by omega
      have ht1 : (t : Int) ≤ 2305843009213693952 := by have := HM.out; omega
      have hn1 : n ≤ 64 := by omega
      have hhn : h + n ≤ 64 := by omega
      clear h8 h64 hb hL hn hcell hst hgr hbv hl1 htl hh hrem hb0 ht hlen hcap
      by_cases hf : h + n = 64
      · have hf1 : ((h : Int) + (n : Int) == 64) = true := by simp; omega
        go_wp2_with (refine wpList_copy_st rfl _ _ rfl b h n c o L cap _ T ws rest rem t (by rfl) (by rfl) HL.out HB.out H8.out H64.out hh64 HN.out HC.out ?_; intro w2 h2 g2; obtain ⟨re, hre⟩ : ∃ re, fillR rest h (rem.take n) = re := ⟨_, rfl⟩; have HR := Bx.mk hre; rw [hre] at h2; clear hre; have H2 := Bx.mk h2; have G2 := Bx.mk g2; clear h2 g2)
        have HRL : Bx (re.length = 64) := Bx.mk (by rw [← HR.out, fillR_length _ _ _ (by have := H64.out; have := HL.out; rw [List.length_take]; omega)]; exact H64.out)
        have HTB : Bx (Tab w2) := Bx.mk (fun i hi => (kb_trans HX.out.2.1 G2.out).cell (HA.out i hi) (by simpa using HG.out))
        obtain ⟨l0, hl0⟩ : ∃ l0, (if t < 64 then hTab else ws) = l0 := ⟨_, rfl⟩
        have HL0 : Bx (hs (b0.length / 64) b0 = l0) := Bx.mk (by rw [← hl0, ← HX.out.2.2.2.2.2.2.2.2.1]; exact HX.out.1.now.symm)
        have HL8 : Bx (l0.length = 8) := Bx.mk (by rw [← HL0.out]; exact hs_length _ _)
        have hbl : b < w2.heap.size := (Array.getElem?_eq_some_iff.1 H2.out).1
        have HNow : Bx (∀ W : World, W.heap = w2.heap → Calls Tryd.prog 90 #[.pointer (some ⟨b, 0, none⟩)] W fun e w' => e = .returned (.agg (u32s l0)) ∧ Below W.heap.size W w') :=
          Bx.mk (fun W e => by rw [← hl0]; exact now_any b T ws re t W (by rw [e]; exact H2.out) H8.out HRL.out (by have := HM.out; have := HX.out.2.2.2.2.1; omega))
        clear hl0
        obtain ⟨m, hm⟩ : ∃ m, mix l0 re = m := ⟨_, rfl⟩
        have HMX := Bx.mk hm
        have HM8 : Bx (m.length = 8) := Bx.mk (by rw [← hm, mix_length]; exact HL8.out)
        have HMix : Bx (∀ W W' : World, Below W.heap.size W W' → W.heap = w2.heap → Calls Tryd.prog 89 #[.agg (u32s l0), .agg (u8s re)] W' fun e w' => e = .returned (.agg (u32s m)) ∧ Below W'.heap.size W' w') :=
          Bx.mk (fun W W' hb e => by
            rw [← hm]
            have h0 : 1 < w2.heap.size := World.block_lt_of_cell? _ _ (HTB.out 0 (by omega))
            refine mixed_any l0 re W' HL8.out HRL.out (fun i hi => ?_) (Nat.lt_of_lt_of_le h0 (by rw [← e]; exact hb.size))
            rw [World.cell?_of_block (w := w2) (below_heap hb e _ h0)]
            exact HTB.out i hi)
        clear hm
        have HU := Bx.mk Tryd.underlying124
        have hu := Tryd.underlying124
        have hi : (Tryd.prog.info? 124).map (·.size) = some (u8s re).toList.length := by rw [Array.length_toList, u8s_size, HRL.out]; kernel_rfl
        have hu2 := Tryd.underlying43
        have hi2 : (Tryd.prog.info? 43).map (·.size) = some (u32s m).size := by rw [u32s_size, HM8.out]; kernel_rfl
        have hl2 : (u32s m).size = 8 := by rw [u32s_size, HM8.out]
        have ho2 := one_u32s m
        go_region_held3 (fun w' => w'.rangeAt b 8 (u8s re).toList ∧ w'.there b 0 8)
          (first | exact sk H2.out H8.out HRL.out rfl | exact sk H2.out H8.out HRL.out (below_heap hb3 rfl _ hbl) | exact sk H2.out H8.out HRL.out ((hb4.block _ (Nat.lt_of_lt_of_le hbl hb3.size)).trans (below_heap hb3 rfl _ hbl)) | exact sk_set (by simpa using hl2) (sk H2.out H8.out HRL.out ((hb4.block _ (Nat.lt_of_lt_of_le hbl hb3.size)).trans (below_heap hb3 rfl _ hbl))))
          (first | (go_at_call 90; refine (HNow.out _ (by rfl)).mono ?_; rintro e w3 ⟨rfl, hb3⟩) | (go_at_call 89; refine (HMix.out _ _ hb3 (by rfl)).mono ?_; rintro e w4 ⟨rfl, hb4⟩; have hst := st8 (P := Tryd.prog) w4 b m HM8.out (sk H2.out H8.out HRL.out ((hb4.block _ (Nat.lt_of_lt_of_le hbl hb3.size)).trans (below_heap hb3 rfl _ hbl))).2))
        have hf2 := Bx.mk hf
        clear hf
        have H5 : Bx ((w4.setCells b 0 (u32s m).toList).heap[b]? = some (.cells (stC m re t) T (0, 0))) := Bx.mk (by
          rw [heap_setCells_same b T _ 0 w4 (stC ws re t) ((hb4.block _ (Nat.lt_of_lt_of_le hbl hb3.size)).trans ((below_heap hb3 rfl _ hbl).trans H2.out)), stC_spl _ _ _ _ H8.out HM8.out])
        have G5 : Bx (w2.grownBy (w4.setCells b 0 (u32s m).toList) (some b)) := Bx.mk (kb_trans (kb_trans (kb_trans (kb_drewN _ w2 1) (kb_below _ hb3)) (kb_below _ hb4)) (kb_setCells _ _ _))
        clear hst hb3 hb4
        generalize w4.setCells b 0 (u32s m).toList = w5 at *
        have ct5 : w5.cell? ⟨b, 72, none⟩ = some (.int .u64 (t : Int)) := (by rw [cell_of_row _ _ _ _ _ _ H5.out]; exact stC_told m re t HM8.out HRL.out)
        have f5 : w5.frozen? ⟨b, 72, none⟩ = false := frozen_of_row _ _ _ _ _ H5.out
        clear hi hi2 hl2 ho2 HNow HMix
        go_wp2
        go_roundw
        case rel =>
          obtain ⟨x1, x2, x3, x4, x5, x6, x7, x8, x9, x10⟩ := HX.out
          have hnr : n ≤ rem.length := by have := HL.out; have := HN.out; omega
          refine tk_next (ws' := m) (rest' := re) hk hnr x7 x8 x9 x3 x2 (kb_trans G2.out (kb_trans G5.out (kb_setCell _ _ _))) ?_ ?_
          · rw [heap_setCell_same _ _ _ _ _ _ H5.out, ← Int.natCast_add, stC_set _ _ _ _ HM8.out HRL.out]
          · have hp := x1.full (q := rem.take n) (by have := hf2.out; rw [x9, x6, List.length_take, Nat.min_eq_left hnr]; omega)
            rw [HL0.out] at hp
            rw [x9, x6, HR.out, HMX.out] at hp
            exact hp
        case measure =>
          have := HX.out.2.2.2.1
          have := HN.out
          simp only [lenV] at *
          omega
      · have hf1 : ((h : Int) + (n : Int) == 64) = false := by simp; omega
        go_wp2_with (refine wpList_copy_st rfl _ _ rfl b h n c o L cap _ T ws rest rem t (by rfl) (by rfl) HL.out HB.out H8.out H64.out hh64 HN.out HC.out ?_; intro w2 h2 g2; obtain ⟨re, hre⟩ : ∃ re, fillR rest h (rem.take n) = re := ⟨_, rfl⟩; have HR := Bx.mk hre; rw [hre] at h2; clear hre; have H2 := Bx.mk h2; have G2 := Bx.mk g2; have HRL : Bx (re.length = 64) := Bx.mk (by rw [← HR.out, fillR_length _ _ _ (by have := H64.out; have := HL.out; rw [List.length_take]; omega)]; exact H64.out); have ct2 : w2.cell? ⟨b, 72, none⟩ = some (.int .u64 (t : Int)) := (by rw [cell_of_row _ _ _ _ _ _ h2]; exact stC_told ws re t H8.out HRL.out); have f2 : w2.frozen? ⟨b, 72, none⟩ = false := frozen_of_row _ _ _ _ _ h2; clear h2 g2)
        go_roundw
        case rel =>
          obtain ⟨x1, x2, x3, x4, x5, x6, x7, x8, x9, x10⟩ := HX.out
          have hnr : n ≤ rem.length := by have := HL.out; have := HN.out; omega
          refine tk_next (ws' := ws) (rest' := re) hk hnr x7 x8 x9 x3 x2 (kb_trans G2.out (kb_setCell _ _ _)) ?_ ?_
          · rw [heap_setCell_same _ _ _ _ _ _ H2.out, ← Int.natCast_add, stC_set _ _ _ _ H8.out HRL.out]
          · have hp := x1.part (q := rem.take n) (by rw [x9, x6, List.length_take, Nat.min_eq_left hnr]; omega)
            rw [x9, x6, HR.out] at hp
            exact hp
        case measure =>
          have := HX.out.2.2.2.1
          have := HN.out
          simp only [lenV] at *
          omega
    · have e0 : rem.length = 0 := by omega
      have HW : Bx (Took w b T (bs ++ ps) wr) := Bx.mk (by
        have e1 : ps.take k = ps := List.take_of_length_le (by have := List.length_drop (l := ps) (i := k); rw [hrem] at this; omega)
        rw [e1] at hb hst
        exact ⟨ws, rest, hb, hst, hgr⟩)
      clear hb hst hgr hcells hrem
      rw [e0]
      clear e0 hz hcap
      go_wp2
      go_end0
      exact ⟨rfl, HW.out⟩
end Go.Proofs.YtaoekfomffebhaaDoor
namespace Go.Proofs.YtaoekfomffebhaaDoor
open Go Go.RowKit
/-- The bytes of the first k words, in 32 places. -/
def outF (ws : List (BitVec 32)) : Nat → List UInt8
  | 0 => List.replicate 32 0
  | k + 1 => putL (outF ws k) (4 * k) (ws.getD k 0)
theorem outF_length (ws : List (BitVec 32)) (k : Nat) : (outF ws k).length = 32 := by
  induction k with
  | zero => rfl
  | succ k ih => rw [outF, putL_length, ih]
theorem outF_at (a b c d e f g i : BitVec 32) : outF [a, b, c, d, e, f, g, i] 8 = outOf [a, b, c, d, e, f, g, i] := by kernel_rfl
theorem outF_all (ws : List (BitVec 32)) (h : ws.length = 8) : outF ws 8 = outOf ws := by
  match ws, h with
  | [a, b, c, d, e, f, g, i], _ => exact outF_at a b c d e f g i
theorem pad_length (t : Nat) : (padOf t).length = zerosOf t + 9 := by simp [padOf, four]
theorem pad_whole (t : Nat) : (t + zerosOf t + 9) % 64 = 0 := by unfold zerosOf; omega
theorem zero32 : u8s (List.replicate 32 0) = #[.int .u8 0, .int .u8 0, .int .u8 0, .int .u8 0, .int .u8 0, .int .u8 0, .int .u8 0, .int .u8 0, .int .u8 0, .int .u8 0, .int .u8 0, .int .u8 0, .int .u8 0, .int .u8 0, .int .u8 0, .int .u8 0, .int .u8 0, .int .u8 0, .int .u8 0, .int .u8 0, .int .u8 0, .int .u8 0, .int .u8 0, .int .u8 0, .int .u8 0, .int .u8 0, .int .u8 0, .int .u8 0, .int .u8 0, .int .u8 0, .int .u8 0, .int .u8 0] := by kernel_rfl
/-- 'x[l:]' of an array of 32 bytes, l inside it. -/
theorem sl32 (W : World) (b n : Nat) (l : Int) (hl : l = (n : Int)) (hn : n < 32) :
    (Instr.sliceAt 27 (.pointer (some ⟨b, 0, none⟩)) (some (.int .i64 l)) none none).run Tryd.prog W = .ok (.slice (some ⟨b, n, none⟩) (32 - n) (32 - n)) W := by
  subst hl
  have ha : Tryd.prog.arrayLen 27 = 32 := by kernel_rfl
  have he : Tryd.prog.elem 27 = 5 := by kernel_rfl
  have hs : ((sizeOf 5).run Tryd.prog W) = .ok 1 W := by kernel_rfl
  rw [run_sliceAt_array_l W 27 ⟨b, 0, none⟩ (by rw [ha, he]; exact Tryd.underlying27) .i64 (n : Int) (by omega) (by rw [ha]; omega)]
  rw [he, hs, ha]
  have h1 : ¬ (32 = n) := by omega
  simp [slicedAt, h1, Result.andThen, Addr.add]
  intro h
  exact h.symm
theorem sha_of {bs : List UInt8} {ws : List (BitVec 32)} {rest : List UInt8} (h : StIs (bs ++ padOf bs.length) ws rest) : outOf ws = sha bs := by
  have hl : (bs ++ padOf bs.length).length = bs.length + zerosOf bs.length + 9 := by rw [List.length_append, pad_length]; omega
  have hw := h.words (by have := pad_whole bs.length; omega)
  unfold sha
  rw [hw, hl]
/-- While the words are written out. -/
def EndRel (w : World) (ws : List (BitVec 32)) (g : Nat) (k : Nat) (wr : World) : Prop :=
  Below w.heap.size w wr ∧ w.heap.size < g ∧ w.heap.size + 1 < g ∧ wr.heap[w.heap.size + 1]? = some (.cells (u8s (List.replicate 32 0)) 27 (0, 0)) ∧ wr.heap[g]? = some (.cells (u8s (outF ws k)) 27 (0, 0))
theorem EndRel.step {w wr : World} {ws : List (BitVec 32)} {g k : Nat} (h : EndRel w ws g k wr) : EndRel w ws g (k + 1) (put4 wr g (4 * k) (ws.getD k 0)) :=
  ⟨put4_below h.1 _ _ _ (by have := h.2.1; omega), h.2.1, h.2.2.1, by rw [put4_other _ _ _ _ _ (by have := h.2.2.1; omega)]; exact h.2.2.2.1, put4_row h.2.2.2.2 _ _⟩
set_option maxRecDepth 100000 in
set_option maxHeartbeats 1000000 in
theorem end_any (bs : List UInt8) (ws : List (BitVec 32)) (rest : List UInt8) (t : Nat) (w : World) (hst : StIs bs ws rest) (ht : t = bs.length) (hN : t < 1152921504606846976) (hTab : Tab w) (hg : 1 < w.heap.size) :
    Calls Tryd.prog 84 #[.agg (stC ws rest t)] w fun e w' => e = .returned (.agg (u8s (sha bs))) ∧ Below w.heap.size w w' := by
  have HT := Bx.mk ht
  have HM := Bx.mk hN
  have HS := Bx.mk hst
  have HA := Bx.mk hTab
  have ct : (stC ws rest t)[72]? = some (.int .u64 (t : Int)) := stC_told ws rest t hst.w8 hst.r64
  clear hst ht hN hTab
  go_enter Tryd.func84, Tryd.ntmps84
  go_wp2_with fail
  obtain ⟨w1, hw1⟩ : ∃ w1, (w.alloc (Obj.cells (stC ws rest t) 127)).alloc (Obj.cells #[.int .u8 0, .int .u8 0, .int .u8 0, .int .u8 0, .int .u8 0, .int .u8 0, .int .u8 0, .int .u8 0, .int .u8 0, .int .u8 0, .int .u8 0, .int .u8 0, .int .u8 0, .int .u8 0, .int .u8 0, .int .u8 0, .int .u8 0, .int .u8 0, .int .u8 0, .int .u8 0, .int .u8 0, .int .u8 0, .int .u8 0, .int .u8 0, .int .u8 0, .int .u8 0, .int .u8 0, .int .u8 0, .int .u8 0, .int .u8 0, .int .u8 0, .int .u8 0] 27) = w1 := ⟨_, rfl⟩
  have H1 : Bx (Below w.heap.size w w1 ∧ w1.heap.size = w.heap.size + 2 ∧ w1.heap[w.heap.size]? = some (.cells (stC ws rest t) 127 (0, 0)) ∧ w1.heap[w.heap.size + 1]? = some (.cells (u8s (List.replicate 32 0)) 27 (0, 0))) := Bx.mk (by
    rw [← hw1]
    refine ⟨((Below.refl _ _).alloc (Nat.le_refl _) _).alloc (by simp) _, by simp, ?_, ?_⟩
    · rw [hold _ _ _ (by simp), hnew _ _ _ rfl]
    · rw [hnew _ _ _ (by simp), zero32])
  rw [hw1]
  clear hw1 ct
  refine (padding_any t w1 (by have := HM.out; omega)).mono ?_
  rintro e w2 ⟨rfl, hp1, hp2, hp3⟩
  have H2 : Bx (Below w.heap.size w w2 ∧ w.heap.size + 2 < w2.heap.size ∧ w2.heap[w.heap.size]? = some (.cells (stC ws rest t) 127 (0, 0)) ∧ w2.heap[w.heap.size + 1]? = some (.cells (u8s (List.replicate 32 0)) 27 (0, 0))) := Bx.mk (by
    obtain ⟨q1, q2, q3, q4⟩ := H1.out
    refine ⟨q1.trans (hp1.mono (by omega)), by omega, by rw [hp1.block _ (by omega)]; exact q3, by rw [hp1.block _ (by omega)]; exact q4⟩)
  have HB : Bx (BytesAt w2 w.heap.size (.slice (some ⟨w1.heap.size, 0, none⟩) (zerosOf t + 9) (zerosOf t + 9)) (padOf t)) := Bx.mk (by
    refine ⟨_, _, by rw [pad_length], by rw [pad_length]; omega, fun _ => ⟨w1.heap.size, 0, by have := H1.out.2.1; omega, rfl, fun j hj => ?_⟩⟩
    rw [cell_of_row _ _ _ _ _ _ hp3, Nat.zero_add]
    exact u8s_get _ _ hj)
  clear hp1 hp2 hp3 H1
  have HTk : Bx (Took w2 w.heap.size 127 bs w2) := Bx.mk ⟨ws, rest, by rw [← HT.out]; exact H2.out.2.2.1, HS.out, kb_refl _ _⟩
  have HA2 : Bx (Tab w2) := Bx.mk (HA.out.later H2.out.1 hg)
  go_wp2_with fail
  refine (take_any w.heap.size 127 bs (padOf t) _ w2 HTk.out HB.out (by have := HM.out; have := HT.out; have : zerosOf t < 64 := Nat.mod_lt _ (by omega); rw [pad_length]; omega) HA2.out (by omega)).mono ?_
  rintro e w3 ⟨rfl, hk⟩
  obtain ⟨vs, re, hv1, hv2, hv3⟩ := hk
  have H3 : Bx (Below w.heap.size w w3 ∧ w.heap.size + 2 < w3.heap.size ∧ w3.heap[w.heap.size + 1]? = some (.cells (u8s (List.replicate 32 0)) 27 (0, 0)) ∧ w3.rangeAt w.heap.size 0 (u32s vs).toList ∧ vs.length = 8 ∧ outOf vs = sha bs) := Bx.mk (by
    obtain ⟨q1, q2, q3, q4⟩ := H2.out
    refine ⟨?_, Nat.lt_of_lt_of_le q2 hv3.size, by rw [hv3.block _ (by omega) (by simp)]; exact q4, st_range hv1 hv2.w8, hv2.w8, sha_of (by rw [← HT.out]; exact hv2)⟩
    exact q1.trans ⟨hv3.os, hv3.tape, hv3.output, Nat.le_trans (by omega) hv3.size, fun i hi => hv3.block i (by omega) (by simp; omega)⟩)
  clear hv1 hv2 hv3 H2 HB HTk HA2 HA HS HT HM
  have HJ : Bx ((Tryd.prog.info? 43).map (·.size) = some (u32s vs).toList.length) := Bx.mk (by rw [Array.length_toList, u32s_size, H3.out.2.2.2.2.1]; kernel_rfl)
  go_wp2_with (refine wpList_load_mid rfl 43 _ rfl w.heap.size 0 (by rfl) (u32s vs).toList _ (World.rangeAt_alloc H3.out.2.2.2.1 _) Tryd.underlying43 rfl HJ.out ?_; rw [back_u32s])
  have HE : Bx (EndRel w vs w3.heap.size 0 (w3.alloc (Obj.cells #[.int .u8 0, .int .u8 0, .int .u8 0, .int .u8 0, .int .u8 0, .int .u8 0, .int .u8 0, .int .u8 0, .int .u8 0, .int .u8 0, .int .u8 0, .int .u8 0, .int .u8 0, .int .u8 0, .int .u8 0, .int .u8 0, .int .u8 0, .int .u8 0, .int .u8 0, .int .u8 0, .int .u8 0, .int .u8 0, .int .u8 0, .int .u8 0, .int .u8 0, .int .u8 0, .int .u8 0, .int .u8 0, .int .u8 0, .int .u8 0, .int .u8 0, .int .u8 0] 27))) := Bx.mk (by
    obtain ⟨q1, q2, q3, _⟩ := H3.out
    exact ⟨q1.alloc (by omega) _, by omega, by omega, by rw [hold _ _ _ (by omega)]; exact q3, by rw [hnew _ _ _ rfl, ← zero32]; rfl⟩)
  have HV : Bx (vs.length = 8 ∧ outOf vs = sha bs) := Bx.mk H3.out.2.2.2.2
  clear H3 HJ
  go_loopw [12] (fun i wr => ∃ k : Nat, k ≤ 8 ∧ i = .int .i64 k ∧ EndRel w vs w3.heap.size k wr) (fun i _ => 8 - (intOf i).toNat)
  case atStart => exact ⟨0, Nat.zero_le _, rfl, HE.out⟩
  case round =>
    clear HE
    obtain ⟨k, hk, rfl, he⟩ := hrel
    have HE := Bx.mk he
    clear he
    by_cases hlt : k < 8
    · have hix := fun W => idx_row 43 8 vs Tryd.underlying43 HV.out.1.symm k (by rw [HV.out.1]; exact hlt) W
      have hsl := fun W => sl32 W w3.heap.size (4 * k) (4 * (k : Int)) (by omega) (by omega)
      have HC : Bx (Calls Tryd.prog 92 #[.slice (some ⟨w3.heap.size, 4 * k, none⟩) (32 - 4 * k) (32 - 4 * k), .int .u32 (uv (vs.getD k 0))] wr fun e w' => e = .returned (.tuple #[]) ∧ w' = put4 wr w3.heap.size (4 * k) (vs.getD k 0)) :=
        Bx.mk (put32_row w3.heap.size (4 * k) _ _ _ _ _ wr HE.out.2.2.2.2 (by omega) (by rw [outF_length]; omega))
      have HN : Bx (EndRel w vs w3.heap.size (k + 1) (put4 wr w3.heap.size (4 * k) (vs.getD k 0))) := Bx.mk HE.out.step
      obtain ⟨x, hx⟩ : ∃ x, vs.getD k 0 = x := ⟨_, rfl⟩
      rw [hx] at hix HC HN
      clear hx
      have hk1 : (k : Int) < 8 := by omega
      go_wp2_with fail
      refine HC.out.mono ?_
      rintro e w4 ⟨rfl, hw4⟩
      rw [← hw4] at HN
      clear hw4 HC HE
      go_wp2
      go_roundw
      case rel => exact ⟨k + 1, by omega, by go_num, HN.out⟩
      case measure => simp [intOf]; omega
    · have ek : k = 8 := by omega
      rw [ek] at HE
      clear ek
      obtain ⟨q1, q2, q3, q4, q5⟩ := HE.out
      rw [outF_all vs HV.out.1, HV.out.2] at q5
      have hso : (sha bs).length = 32 := by rw [← HV.out.2, ← outF_all vs HV.out.1, outF_length]
      obtain ⟨out, hout⟩ : ∃ out, sha bs = out := ⟨_, rfl⟩
      rw [hout] at q5 hso
      have HO := Bx.mk hout
      have HQ : Bx (Below w.heap.size w wr ∧ wr.heap[w.heap.size + 1]? = some (.cells (u8s (List.replicate 32 0)) 27 (0, 0)) ∧ wr.heap[w3.heap.size]? = some (.cells (u8s out) 27 (0, 0)) ∧ out.length = 32) := Bx.mk ⟨q1, q4, q5, hso⟩
      clear q1 q2 q3 q4 q5 hso hout HE HV
      have HI : Bx ((Tryd.prog.info? 27).map (·.size) = some (u8s out).size) := Bx.mk (by rw [u8s_size, HQ.out.2.2.2]; kernel_rfl)
      have HT : Bx (wr.there (w.heap.size + 1) 0 (u8s out).size) := Bx.mk (there_row HQ.out.2.1 0 _ (by rw [u8s_size, u8s_size, HQ.out.2.2.2]; simp))
      have HY : Bx ((wr.setCells (w.heap.size + 1) 0 (u8s out).toList).heap[w.heap.size + 1]? = some (.cells (u8s out) 27 (0, 0))) := Bx.mk (heap_setCells_all HQ.out.2.1 (by rw [u8s_size, u8s_size, HQ.out.2.2.2]; simp))
      go_wp2_with (first | (refine wpList_load_row rfl 27 _ rfl w3.heap.size (by rfl) _ _ _ _ HQ.out.2.2.1 Tryd.underlying27 rfl HI.out ?_) | (refine wpList_store_mid rfl 27 _ _ rfl (w.heap.size + 1) 0 _ (by rfl) (by rfl) HT.out HI.out (one_u8s _) ?_))
      refine bodyPost_ret (results_cell_row rfl _ _ (w.heap.size + 1) _ (u8s out) _ _ rfl HY.out Tryd.underlying27 rfl HI.out) rfl ?_
      exact ⟨by rw [HO.out], below_setCells (by omega) _ _ _ _ HQ.out.1⟩
end Go.Proofs.YtaoekfomffebhaaDoor
namespace Go.Proofs.YtaoekfomffebhaaDoor
open Go Go.RowKit
theorem zero73 : stC (List.replicate 8 0) (List.replicate 64 0) 0 = #[.int .u32 0, .int .u32 0, .int .u32 0, .int .u32 0, .int .u32 0, .int .u32 0, .int .u32 0, .int .u32 0, .int .u8 0, .int .u8 0, .int .u8 0, .int .u8 0, .int .u8 0, .int .u8 0, .int .u8 0, .int .u8 0, .int .u8 0, .int .u8 0, .int .u8 0, .int .u8 0, .int .u8 0, .int .u8 0, .int .u8 0, .int .u8 0, .int .u8 0, .int .u8 0, .int .u8 0, .int .u8 0, .int .u8 0, .int .u8 0, .int .u8 0, .int .u8 0, .int .u8 0, .int .u8 0, .int .u8 0, .int .u8 0, .int .u8 0, .int .u8 0, .int .u8 0, .int .u8 0, .int .u8 0, .int .u8 0, .int .u8 0, .int .u8 0, .int .u8 0, .int .u8 0, .int .u8 0, .int .u8 0, .int .u8 0, .int .u8 0, .int .u8 0, .int .u8 0, .int .u8 0, .int .u8 0, .int .u8 0, .int .u8 0, .int .u8 0, .int .u8 0, .int .u8 0, .int .u8 0, .int .u8 0, .int .u8 0, .int .u8 0, .int .u8 0, .int .u8 0, .int .u8 0, .int .u8 0, .int .u8 0, .int .u8 0, .int .u8 0, .int .u8 0, .int .u8 0, .int .u64 0] := by kernel_rfl
theorem Took.trans {w w1 w2 : World} {b : Nat} {T : TypeId} {bs : List UInt8} (h : w.grownBy w1 (some b)) (k : Took w1 b T bs w2) : Took w b T bs w2 := by
  obtain ⟨ws, rest, h1, h2, h3⟩ := k
  exact ⟨ws, rest, h1, h2, kb_trans h h3⟩
theorem Took.self {w w1 : World} {b : Nat} {T : TypeId} {bs : List UInt8} (k : Took w b T bs w1) : Took w1 b T bs w1 := by
  obtain ⟨ws, rest, h1, h2, _⟩ := k
  exact ⟨ws, rest, h1, h2, kb_refl _ _⟩
theorem Took.kept {w w1 : World} {b : Nat} {T : TypeId} {bs : List UInt8} (k : Took w b T bs w1) : w.grownBy w1 (some b) := by
  obtain ⟨_, _, _, _, h⟩ := k
  exact h
theorem flat_succ (pss : List (List UInt8)) (k : Nat) (h : k < pss.length) : (pss.take (k + 1)).flatten = (pss.take k).flatten ++ pss.getD k [] := by
  rw [List.take_succ_eq_append_getElem h, List.flatten_append]
  simp [h]
theorem flat_le (pss : List (List UInt8)) (k : Nat) : (pss.take k).flatten.length ≤ pss.flatten.length := by
  have e : pss.flatten = (pss.take k).flatten ++ (pss.drop k).flatten := by rw [← List.flatten_append, List.take_append_drop]
  rw [e, List.length_append]
  omega
set_option maxRecDepth 100000 in
set_option maxHeartbeats 400000 in
theorem add_any (b : Nat) (bs : List UInt8) (pss : List (List UInt8)) (v : Value) (w : World) (hT : Took w b 129 bs w) (hv : PartsAt w b v pss) (hl : pss.length < 281474976710656) (hN : bs.length + pss.flatten.length < 1152921504606846976) (hTab : Tab w) (hg : 1 ≠ b) :
    Calls Tryd.prog 70 #[.pointer (some ⟨b, 0, none⟩), v] w fun e w' => e = .returned (.pointer (some ⟨b, 0, none⟩)) ∧ Took w b 129 (bs ++ pss.flatten) w' := by
  have HP := Bx.mk hv
  obtain ⟨a, cap, rfl, _⟩ := hv
  have H0 := Bx.mk hT
  have HM := Bx.mk hN
  have HA := Bx.mk hTab
  have hl1 : (pss.length : Int) < 281474976710656 := by omega
  obtain ⟨n, hn⟩ : ∃ n, pss.length = n := ⟨_, rfl⟩
  rw [hn] at hl1 ⊢
  rw [hn] at HP
  have HN := Bx.mk hn
  have HG := Bx.mk hg
  clear hT hN hTab hl hn hg
  go_enter Tryd.func70, Tryd.ntmps70
  go_wp2
  go_loopw [11] (fun i wr => ∃ k : Nat, k ≤ n ∧ i = .int .i64 k ∧ Took w b 129 (bs ++ (pss.take k).flatten) wr) (fun i _ => n - (intOf i).toNat)
  case atStart => exact ⟨0, Nat.zero_le _, rfl, by simpa using H0.out⟩
  case round =>
    clear H0
    obtain ⟨k, hk, rfl, ht⟩ := hrel
    have HT := Bx.mk ht
    clear ht
    by_cases hlt : k < n
    · obtain ⟨a', cap', he, hr⟩ := HP.out.later HT.out.kept
      injection he with he1 he2 he3
      obtain ⟨p, o, hne, ha, hcell⟩ := hr (by rw [HN.out]; omega)
      subst he1
      subst ha
      obtain ⟨x, hx, hxb⟩ := hcell k (by rw [HN.out]; omega)
      clear hcell hr he2 he3
      have HX := Bx.mk hxb
      have hlk : (k : Int) < (n : Int) := by omega
      have HC : Bx (Calls Tryd.prog 83 #[.pointer (some ⟨b, 0, none⟩), x] wr fun e w' => e = .returned (.tuple #[]) ∧ Took wr b 129 (bs ++ (pss.take k).flatten ++ pss.getD k []) w') :=
        Bx.mk (take_any b 129 _ _ x wr HT.out.self HX.out (by
          have h1 := flat_succ pss k (by rw [HN.out]; omega)
          have h2 := flat_le pss (k + 1)
          rw [h1, List.length_append] at h2
          have h3 := HM.out
          rw [List.length_append]
          omega) (fun i hi => HT.out.kept.cell (HA.out i hi) (by simpa using HG.out)) HG.out)
      have HE : Bx (bs ++ (pss.take k).flatten ++ pss.getD k [] = bs ++ (pss.take (k + 1)).flatten) := Bx.mk (by
        rw [flat_succ pss k (by rw [HN.out]; omega), List.append_assoc])
      clear hxb hne
      go_wp2_with fail
      refine HC.out.mono ?_
      rintro e w2 ⟨rfl, h2⟩
      rw [HE.out] at h2
      have H2 : Bx (Took w b 129 (bs ++ (pss.take (k + 1)).flatten) w2) := Bx.mk (Took.trans HT.out.kept h2)
      clear h2 HC HE
      go_wp2
      go_roundw
      case rel => exact ⟨k + 1, by omega, by go_num, H2.out⟩
      case measure => simp [intOf]; omega
    · have HE : Bx (Took w b 129 (bs ++ pss.flatten) wr) := Bx.mk (by have h := HT.out; rw [List.take_of_length_le (by rw [HN.out]; omega)] at h; exact h)
      clear HT
      go_wp2
      go_ret
      exact ⟨rfl, HE.out⟩
theorem sha_length (bs : List UInt8) : (sha bs).length = 32 := by
  unfold sha
  rw [← outF_all _ (hs_length _ _), outF_length]
/-- The last steps of a function whose result is an array of 32 bytes: it is stored into the result's block. -/
theorem res32 {w wr : World} {B : Nat} {out : List UInt8} (hq : wr.heap[B]? = some (.cells (u8s (List.replicate 32 0)) 27 (0, 0))) (ho : out.length = 32) (hb : Below w.heap.size w wr) (hB : w.heap.size ≤ B) :
    (Tryd.prog.info? 27).map (·.size) = some (u8s out).size ∧ wr.there B 0 (u8s out).size ∧ (wr.setCells B 0 (u8s out).toList).heap[B]? = some (.cells (u8s out) 27 (0, 0)) ∧ Below w.heap.size w (wr.setCells B 0 (u8s out).toList) :=
  ⟨by rw [u8s_size, ho]; kernel_rfl, there_row hq 0 _ (by rw [u8s_size, u8s_size, ho]; simp), heap_setCells_all hq (by rw [u8s_size, u8s_size, ho]; simp), below_setCells hB _ _ _ _ hb⟩
set_option maxRecDepth 100000 in
theorem sum_any (b : Nat) (bs : List UInt8) (w : World) (hT : Took w b 129 bs w) (hN : bs.length < 1152921504606846976) (hTab : Tab w) (hg : 1 < w.heap.size) :
    Calls Tryd.prog 72 #[.pointer (some ⟨b, 0, none⟩)] w fun e w' => e = .returned (.agg (u8s (sha bs))) ∧ Below w.heap.size w w' := by
  obtain ⟨ws, rest, h1, h2, _⟩ := hT
  have hbl : b < w.heap.size := (Array.getElem?_eq_some_iff.1 h1).1
  have HC : Bx (Calls Tryd.prog 84 #[.agg (stC ws rest bs.length)] (w.alloc (.cells #[.int .u8 0, .int .u8 0, .int .u8 0, .int .u8 0, .int .u8 0, .int .u8 0, .int .u8 0, .int .u8 0, .int .u8 0, .int .u8 0, .int .u8 0, .int .u8 0, .int .u8 0, .int .u8 0, .int .u8 0, .int .u8 0, .int .u8 0, .int .u8 0, .int .u8 0, .int .u8 0, .int .u8 0, .int .u8 0, .int .u8 0, .int .u8 0, .int .u8 0, .int .u8 0, .int .u8 0, .int .u8 0, .int .u8 0, .int .u8 0, .int .u8 0, .int .u8 0] 27)) fun e w' => e = .returned (.agg (u8s (sha bs))) ∧ Below (w.alloc (.cells #[.int .u8 0, .int .u8 0, .int .u8 0, .int .u8 0, .int .u8 0, .int .u8 0, .int .u8 0, .int .u8 0, .int .u8 0, .int .u8 0, .int .u8 0, .int .u8 0, .int .u8 0, .int .u8 0, .int .u8 0, .int .u8 0, .int .u8 0, .int .u8 0, .int .u8 0, .int .u8 0, .int .u8 0, .int .u8 0, .int .u8 0, .int .u8 0, .int .u8 0, .int .u8 0, .int .u8 0, .int .u8 0, .int .u8 0, .int .u8 0, .int .u8 0, .int .u8 0] 27)).heap.size (w.alloc (.cells #[.int .u8 0, .int .u8 0, .int .u8 0, .int .u8 0, .int .u8 0, .int .u8 0, .int .u8 0, .int .u8 0, .int .u8 0, .int .u8 0, .int .u8 0, .int .u8 0, .int .u8 0, .int .u8 0, .int .u8 0, .int .u8 0, .int .u8 0, .int .u8 0, .int .u8 0, .int .u8 0, .int .u8 0, .int .u8 0, .int .u8 0, .int .u8 0, .int .u8 0, .int .u8 0, .int .u8 0, .int .u8 0, .int .u8 0, .int .u8 0, .int .u8 0, .int .u8 0] 27)) w') := Bx.mk (
    end_any bs _ _ _ _ h2 rfl hN (hTab.later ((Below.refl _ _).alloc (Nat.le_refl _) _) hg) (Nat.lt_of_lt_of_le hg (by simp)))
  have H1 : Bx ((w.alloc (.cells #[.int .u8 0, .int .u8 0, .int .u8 0, .int .u8 0, .int .u8 0, .int .u8 0, .int .u8 0, .int .u8 0, .int .u8 0, .int .u8 0, .int .u8 0, .int .u8 0, .int .u8 0, .int .u8 0, .int .u8 0, .int .u8 0, .int .u8 0, .int .u8 0, .int .u8 0, .int .u8 0, .int .u8 0, .int .u8 0, .int .u8 0, .int .u8 0, .int .u8 0, .int .u8 0, .int .u8 0, .int .u8 0, .int .u8 0, .int .u8 0, .int .u8 0, .int .u8 0] 27)).heap[b]? = some (.cells (stC ws rest bs.length) 129 (0, 0))) := Bx.mk (by rw [hold _ _ _ hbl]; exact h1)
  have HI : Bx ((Tryd.prog.info? 127).map (·.size) = some (stC ws rest bs.length).size) := Bx.mk (by rw [stC_size _ _ _ h2.w8 h2.r64]; kernel_rfl)
  have HL := Bx.mk (sha_length bs)
  clear h1 h2 hbl hTab hg hN
  generalize sha bs = out at *
  generalize stC ws rest bs.length = cs at *
  go_enter Tryd.func72, Tryd.ntmps72
  go_wp2_with (refine wpList_load_row rfl 127 _ rfl b (by rfl) _ _ _ _ H1.out Tryd.underlying127 rfl HI.out ?_)
  refine HC.out.mono ?_
  rintro e w1 ⟨rfl, hb⟩
  have HR : Bx (_ ∧ _ ∧ _ ∧ _) := Bx.mk (res32 (w := w) (wr := w1) (B := w.heap.size) (out := out) (by rw [hb.block _ (by simp), hnew _ _ _ rfl, ← zero32]) HL.out (((Below.refl _ _).alloc (Nat.le_refl _) _).trans (hb.mono (by simp))) (Nat.le_refl _))
  clear HC hb H1
  go_wp2_with (refine wpList_store_mid rfl 27 _ _ rfl w.heap.size 0 _ (by rfl) (by rfl) HR.out.2.1 HR.out.1 (one_u8s _) ?_)
  refine bodyPost_ret (results_cell_row rfl _ _ w.heap.size _ (u8s out) _ _ rfl HR.out.2.2.1 Tryd.underlying27 rfl HR.out.1) rfl ?_
  exact ⟨rfl, HR.out.2.2.2⟩
end Go.Proofs.YtaoekfomffebhaaDoor
namespace Go.Proofs.YtaoekfomffebhaaDoor
open Go Go.RowKit
set_option maxRecDepth 100000 in
theorem dsum_any (pss : List (List UInt8)) (v : Value) (w : World) (hv : PartsAt w (w.heap.size + 1) v pss) (hl : pss.length < 281474976710656) (hN : pss.flatten.length < 1152921504606846976) (hTab : Tab w) (hg : 1 < w.heap.size) :
    Calls Tryd.prog 73 #[v] w fun e w' => e = .returned (.agg (u8s (sha pss.flatten))) ∧ Below w.heap.size w w' := by
  obtain ⟨zc, hzc⟩ : ∃ zc, stC (List.replicate 8 0) (List.replicate 64 0) 0 = zc := ⟨_, rfl⟩
  have hzv : ∀ W : World, (zeroValue 129).run Tryd.prog W = .ok (.agg zc) W := fun W => by rw [← hzc, zero73]; kernel_rfl
  have HZ := Bx.mk hzc
  clear hzc
  have HP := Bx.mk hv
  have HM := Bx.mk (And.intro hl hN)
  have HA := Bx.mk hTab
  have HL := Bx.mk (sha_length pss.flatten)
  clear hv hl hN hTab
  go_enter Tryd.func73, Tryd.ntmps73
  go_wp2_with fail
  obtain ⟨w1, hw1⟩ : ∃ w1, (w.alloc (.cells #[.int .u8 0, .int .u8 0, .int .u8 0, .int .u8 0, .int .u8 0, .int .u8 0, .int .u8 0, .int .u8 0, .int .u8 0, .int .u8 0, .int .u8 0, .int .u8 0, .int .u8 0, .int .u8 0, .int .u8 0, .int .u8 0, .int .u8 0, .int .u8 0, .int .u8 0, .int .u8 0, .int .u8 0, .int .u8 0, .int .u8 0, .int .u8 0, .int .u8 0, .int .u8 0, .int .u8 0, .int .u8 0, .int .u8 0, .int .u8 0, .int .u8 0, .int .u8 0] 27)).alloc (.cells zc 129) = w1 := ⟨_, rfl⟩
  have H1 : Bx (Below w.heap.size w w1 ∧ w1.heap.size = w.heap.size + 2 ∧ w1.heap[w.heap.size]? = some (.cells (u8s (List.replicate 32 0)) 27 (0, 0)) ∧ Took w1 (w.heap.size + 1) 129 [] w1) := Bx.mk (by
    rw [← hw1]
    refine ⟨((Below.refl _ _).alloc (Nat.le_refl _) _).alloc (by simp) _, by simp, ?_, _, _, ?_, StIs.zero, kb_refl _ _⟩
    · rw [hold _ _ _ (by simp), hnew _ _ _ rfl, ← zero32]
    · rw [hnew _ _ _ (by simp), ← HZ.out]; rfl)
  rw [hw1]
  clear hw1
  refine (add_any (w.heap.size + 1) [] pss v w1 H1.out.2.2.2 (HP.out.later (kb_below _ H1.out.1)) HM.out.1 (by simpa using HM.out.2) (HA.out.later H1.out.1 hg) (by omega)).mono ?_
  rintro e w2 ⟨rfl, h2⟩
  rw [List.nil_append] at h2
  have H2 : Bx (Below w.heap.size w w2 ∧ w.heap.size + 2 ≤ w2.heap.size ∧ w2.heap[w.heap.size]? = some (.cells (u8s (List.replicate 32 0)) 27 (0, 0)) ∧ Took w2 (w.heap.size + 1) 129 pss.flatten w2) := Bx.mk (by
    obtain ⟨q1, q2, q3, _⟩ := H1.out
    have k := h2.kept
    exact ⟨q1.trans ⟨k.os, k.tape, k.output, Nat.le_trans (by omega) k.size, fun i hi => k.block i (by omega) (by simp; omega)⟩, by have := k.size; omega, by rw [k.block _ (by omega) (by simp)]; exact q3, h2.self⟩)
  clear h2 H1 HP
  go_wp2_with fail
  refine (sum_any (w.heap.size + 1) pss.flatten w2 H2.out.2.2.2 HM.out.2 (HA.out.later H2.out.1 hg) (by have := H2.out.2.1; omega)).mono ?_
  rintro e w3 ⟨rfl, hb⟩
  have HR : Bx (_ ∧ _ ∧ _ ∧ _) := Bx.mk (res32 (w := w) (wr := w3) (B := w.heap.size) (out := sha pss.flatten) (by rw [hb.block _ (by have := H2.out.2.1; omega)]; exact H2.out.2.2.1) HL.out (H2.out.1.trans (hb.mono (by have := H2.out.2.1; omega))) (Nat.le_refl _))
  clear hb H2 HA HM HL
  obtain ⟨out, ho⟩ : ∃ out, sha pss.flatten = out := ⟨_, rfl⟩
  rw [ho] at HR ⊢
  have HO := Bx.mk ho
  clear ho
  go_wp2_with (refine wpList_store_mid rfl 27 _ _ rfl w.heap.size 0 _ (by rfl) (by rfl) HR.out.2.1 HR.out.1 (one_u8s _) ?_)
  refine bodyPost_ret (results_cell_row rfl _ _ w.heap.size _ (u8s out) _ _ rfl HR.out.2.2.1 Tryd.underlying27 rfl HR.out.1) rfl ?_
  exact ⟨by rw [HO.out], HR.out.2.2.2⟩
end Go.Proofs.YtaoekfomffebhaaDoor
namespace Go.Proofs.YtaoekfomffebhaaDoor
open Go Go.RowKit
end Go.Proofs.YtaoekfomffebhaaDoor
namespace Go.Proofs.YtaoekfomffebhaaDoor
open Go Go.RowKit
attribute [local go_sem ↓] Go.wp_at_zero Go.wp_at_succ
end Go.Proofs.YtaoekfomffebhaaDoor
namespace Go.Proofs.YtaoekfomffebhaaDoor
open Go Go.RowKit
end Go.Proofs.YtaoekfomffebhaaDoor
namespace Go.Proofs.YtaoekfomffebhaaDoor
open Go Go.RowKit
end Go.Proofs.YtaoekfomffebhaaDoor
namespace Go.Proofs.YtaoekfomffebhaaDoor
open Go Go.RowKit
end Go.Proofs.YtaoekfomffebhaaDoor
namespace Go.Proofs.YtaoekfomffebhaaDoor
open Go Go.RowKit
end Go.Proofs.YtaoekfomffebhaaDoor
