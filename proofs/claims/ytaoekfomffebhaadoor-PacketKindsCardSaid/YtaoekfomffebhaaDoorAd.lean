/-
  The walks of a running digest, bytes that a call owns, bytes compared.
-/
import Derived.Test.YtaoekfomffebhaaDoorAa
import Derived.Maps.AppendAt
import Derived.Laws.AppendOwnNone
import Derived.Lib.BufferRead
import Derived.Laws.IdiomStrings
import Derived.RegionTactic
import Derived.Control
import Derived.WalkKit
import Derived.Deep.LoopGhost
import Derived.StillTailTactics
import Derived.Stop.BytesEq
import Derived.Deep.RegionHeld3
namespace Go.Proofs.YtaoekfomffebhaaDoor
open Go Go.RowKit
/-- What a state in block b has become. -/
def Took (w : World) (b : Nat) (T : TypeId) (bs : List UInt8) (w' : World) : Prop :=
  ∃ ws rest, w'.heap[b]? = some (.cells (stC ws rest bs.length) T (0, 0)) ∧ StIs bs ws rest ∧ w.grownBy w' (some b)
/-- At the head of each round. -/
def TkRel (w : World) (b : Nat) (T : TypeId) (bs ps : List UInt8) (v : Value) (wr : World) : Prop :=
  ∃ k, k ≤ ps.length ∧ BytesAt wr b v (ps.drop k) ∧ Took w b T (bs ++ ps.take k) wr
theorem tk_next {w wr w3 : World} {b : Nat} {T : TypeId} {bs ps rem b0 : List UInt8} {v1 : Value} {k n t : Nat} {ws' : List (BitVec 32)} {rest' : List UInt8}
    (hk : k ≤ ps.length) (hn : n ≤ rem.length) (hrem : ps.drop k = rem) (hb0 : bs ++ ps.take k = b0) (ht : b0.length = t) (hbv : BytesAt wr b v1 (rem.drop n)) (hg0 : w.grownBy wr (some b)) (hg : wr.grownBy w3 (some b))
    (hh : w3.heap[b]? = some (.cells (stC ws' rest' (t + n)) T (0, 0))) (hs : StIs (b0 ++ rem.take n) ws' rest') : TkRel w b T bs ps v1 w3 := by
  have hl : rem.length = ps.length - k := by rw [← hrem, List.length_drop]
  have e1 : rem.drop n = ps.drop (k + n) := by rw [← hrem, List.drop_drop]
  have e2 : b0 ++ rem.take n = bs ++ ps.take (k + n) := by rw [← hb0, ← hrem, List.append_assoc, List.take_add]
  refine ⟨k + n, by omega, by rw [← e1]; exact hbv.later hg, ws', rest', ?_, by rw [← e2]; exact hs, kb_trans hg0 hg⟩
  rw [← e2, List.length_append, List.length_take, ht, Nat.min_eq_left hn]
  exact hh
theorem sk {w2 W : World} {b : Nat} {T : TypeId} {ws : List (BitVec 32)} {re : List UInt8} {t : Nat} (H2 : w2.heap[b]? = some (.cells (stC ws re t) T (0, 0))) (h8 : ws.length = 8) (h64 : re.length = 64) (e : W.heap[b]? = w2.heap[b]?) :
    W.rangeAt b 8 (u8s re).toList ∧ W.there b 0 8 :=
  ⟨st_range8 (by rw [e]; exact H2) h8 h64, there_row (by rw [e]; exact H2) 0 8 (by rw [stC_size _ _ _ h8 h64]; omega)⟩
theorem sk_set {W : World} {b : Nat} {re : List UInt8} {vs : List Value} (hv : vs.length = 8) (h : W.rangeAt b 8 (u8s re).toList ∧ W.there b 0 8) :
    (W.setCells b 0 vs).rangeAt b 8 (u8s re).toList ∧ (W.setCells b 0 vs).there b 0 8 :=
  ⟨World.rangeAt_setCells_apart h.1 _ _ _ (by omega), World.there_setCells h.2 _ _ _⟩
theorem st8 {P : Program} (W : World) (b : Nat) (m : List (BitVec 32)) (hm : m.length = 8) (h : W.there b 0 8) : (storeCells ⟨b, 0, none⟩ (u32s m).toList).run P W = .ok () (W.setCells b 0 (u32s m).toList) := by
  have l8 : (u32s m).toList.length = 8 := by rw [Array.length_toList, u32s_size, hm]
  have := run_storeCells_cells (P := P) b 0 (u32s m).toList 0 W (fun j hj => by have := (h j (by omega)).1; simpa using this) (fun j hj => by have := (h j (by omega)).2; simpa using this) (fun v hv => by
    have h1 := one_u32s m
    rw [Array.all_eq_true'] at h1
    exact h1 v (by simpa using hv))
  simpa using this
attribute [local go_sem ↓] Go.wp_at_zero Go.wp_at_succ
set_option maxRecDepth 100000 in
set_option maxHeartbeats 1000000 in
theorem take_any (b : Nat) (T : TypeId) (bs ps : List UInt8) (v : Value) (w : World) (hT : Took w b T bs w) (hv : BytesAt w b v ps) (hN : bs.length + ps.length < 2305843009213693952) (hTab : Tab w) (hg : 1 ≠ b) :
    Calls Tryd.prog 83 #[.pointer (some ⟨b, 0, none⟩), v] w fun e w' => e = .returned (.tuple #[]) ∧ Took w b T (bs ++ ps) w' := by
  have H0 : Bx (TkRel w b T bs ps v w) := Bx.mk ⟨0, Nat.zero_le _, hv, by simpa using hT⟩
  have HA := Bx.mk hTab
  have HG := Bx.mk hg
  have HM := Bx.mk hN
  clear hT hv hTab hg hN
  go_enter Tryd.func83, Tryd.ntmps83
  go_wp2
  go_loopw [1] (fun v wr => TkRel w b T bs ps v wr) (fun v _ => lenV v)
  case atStart => exact H0.out
  case round =>
    clear H0
    obtain ⟨k, hk, hv, ws, rest, hb, hst, hgr⟩ := hrel
    obtain ⟨a, cap, rfl, hcap, hcells⟩ := hv
    obtain ⟨rem, hrem⟩ : ∃ rem, ps.drop k = rem := ⟨_, rfl⟩
    rw [hrem] at hcap hcells
    rw [hrem]
    by_cases hz : 0 < rem.length
    · obtain ⟨c, o, hne, rfl, hcell⟩ := hcells hz
      clear hcells
      obtain ⟨b0, hb0⟩ : ∃ b0, bs ++ ps.take k = b0 := ⟨_, rfl⟩
      rw [hb0] at hb hst
      obtain ⟨t, ht⟩ : ∃ t, b0.length = t := ⟨_, rfl⟩
      rw [ht] at hb
      have hlen : rem.length = ps.length - k := by rw [← hrem, List.length_drop]
      have htl : t = bs.length + k := by rw [← ht, ← hb0]; simp; omega
      have h8 := hst.w8
      have h64 := hst.r64
      have ct : wr.cell? ⟨b, 72, none⟩ = some (.int .u64 (t : Int)) := by rw [cell_of_row _ _ _ _ _ _ hb]; exact stC_told ws rest t h8 h64
      obtain ⟨h, hh⟩ : ∃ h, t % 64 = h := ⟨_, rfl⟩
      have hh64 : h < 64 := by omega
      have eh : (t : Int) % 64 = (h : Int) := by omega
      obtain ⟨n, hn⟩ : ∃ n, n = min rem.length (64 - h) := ⟨_, rfl⟩
      obtain ⟨L, hL⟩ : ∃ L, L = rem.length := ⟨_, rfl⟩
      rw [← hL] at hn hcap hz ⊢
      obtain ⟨v1, hv1, hbv, hl1⟩ := sl_bytes wr b c o L cap n rem hL hcap (by omega) hne hcell
      have hsl := fun W => sl64 W b 8 h (h : Int) rfl hh64
      have H8 := Bx.mk h8
      have H64 := Bx.mk h64
      have HB := Bx.mk hb
      have HL := Bx.mk hL
      have HN := Bx.mk hn
      have HC := Bx.mk hcell
      have HX := Bx.mk (And.intro hst (And.intro hgr (And.intro hbv (And.intro hl1 (And.intro htl (And.intro hh (And.intro hrem (And.intro hb0 (And.intro ht hlen)))))))))
      have hz1 : (0 : Int) < (L : Int) := by omega
      have ht1 : (t : Int) ≤ 2305843009213693952 := by have := HM.out; omega
      have hn1 : n ≤ 64 := by omega
      have hhn : h + n ≤ 64 := by omega
      clear h8 h64 hb hL hn hcell hst hgr hbv hl1 htl hh hrem hb0 ht hlen hcap
      by_cases hf : h + n = 64
      · have hf1 : ((h : Int) + (n : Int) == 64) = true := by simp; omega
        go_wp2_with (refine wpList_copy_st rfl _ _ rfl b h n c o L cap _ T ws rest rem t (by rfl) (by rfl) HL.out HB.out H8.out H64.out hh64 HN.out HC.out ?_; intro w2 h2 g2; obtain ⟨re, hre⟩ : ∃ re, fillR rest h (rem.take n) = re := ⟨_, rfl⟩; have HR := Bx.mk hre; rw [hre] at h2; clear hre; have H2 := Bx.mk h2; have G2 := Bx.mk g2; clear h2 g2)
        have HRL : Bx (re.length = 64) := Bx.mk (by rw [← HR.out, fillR_length _ _ _ (by have := H64.out; have := HL.out; rw [List.length_take]; omega)]; exact H64.out)
        have HTB : Bx (Tab w2) := Bx.mk (fun i hi => (kb_trans HX.out.2.1 G2.out).cell (HA.out i hi) (by simpa using HG.out))
        obtain ⟨l0, hl0⟩ : ∃ l0, (if t < 64 then hTab else ws) = l0 := ⟨_, rfl⟩
        have HL0 : Bx (hs (b0.length / 64) b0 = l0) := Bx.mk (by rw [← hl0, ← HX.out.2.2.2.2.2.2.2.2.1]; exact HX.out.1.now.symm)
        have HL8 : Bx (l0.length = 8) := Bx.mk (by rw [← HL0.out]; exact hs_length _ _)
        have hbl : b < w2.heap.size := (Array.getElem?_eq_some_iff.1 H2.out).1
        have HNow : Bx (∀ W : World, W.heap = w2.heap → Calls Tryd.prog 90 #[.pointer (some ⟨b, 0, none⟩)] W fun e w' => e = .returned (.agg (u32s l0)) ∧ Below W.heap.size W w') :=
          Bx.mk (fun W e => by rw [← hl0]; exact now_any b T ws re t W (by rw [e]; exact H2.out) H8.out HRL.out (by have := HM.out; have := HX.out.2.2.2.2.1; omega))
        clear hl0
        obtain ⟨m, hm⟩ : ∃ m, mix l0 re = m := ⟨_, rfl⟩
        have HMX := Bx.mk hm
        have HM8 : Bx (m.length = 8) := Bx.mk (by rw [← hm, mix_length]; exact HL8.out)
        have HMix : Bx (∀ W W' : World, Below W.heap.size W W' → W.heap = w2.heap → Calls Tryd.prog 89 #[.agg (u32s l0), .agg (u8s re)] W' fun e w' => e = .returned (.agg (u32s m)) ∧ Below W'.heap.size W' w') :=
          Bx.mk (fun W W' hb e => by
            rw [← hm]
            have h0 : 1 < w2.heap.size := World.block_lt_of_cell? _ _ (HTB.out 0 (by omega))
            refine mixed_any l0 re W' HL8.out HRL.out (fun i hi => ?_) (Nat.lt_of_lt_of_le h0 (by rw [← e]; exact hb.size))
            rw [World.cell?_of_block (w := w2) (below_heap hb e _ h0)]
            exact HTB.out i hi)
        clear hm
        have HU := Bx.mk Tryd.underlying124
        have hu := Tryd.underlying124
        have hi : (Tryd.prog.info? 124).map (·.size) = some (u8s re).toList.length := by rw [Array.length_toList, u8s_size, HRL.out]; kernel_rfl
        have hu2 := Tryd.underlying43
        have hi2 : (Tryd.prog.info? 43).map (·.size) = some (u32s m).size := by rw [u32s_size, HM8.out]; kernel_rfl
        have hl2 : (u32s m).size = 8 := by rw [u32s_size, HM8.out]
        have ho2 := one_u32s m
        go_region_held3 (fun w' => w'.rangeAt b 8 (u8s re).toList ∧ w'.there b 0 8)
          (first | exact sk H2.out H8.out HRL.out rfl | exact sk H2.out H8.out HRL.out (below_heap hb3 rfl _ hbl) | exact sk H2.out H8.out HRL.out ((hb4.block _ (Nat.lt_of_lt_of_le hbl hb3.size)).trans (below_heap hb3 rfl _ hbl)) | exact sk_set (by simpa using hl2) (sk H2.out H8.out HRL.out ((hb4.block _ (Nat.lt_of_lt_of_le hbl hb3.size)).trans (below_heap hb3 rfl _ hbl))))
          (first | (go_at_call 90; refine (HNow.out _ (by rfl)).mono ?_; rintro e w3 ⟨rfl, hb3⟩) | (go_at_call 89; refine (HMix.out _ _ hb3 (by rfl)).mono ?_; rintro e w4 ⟨rfl, hb4⟩; have hst := st8 (P := Tryd.prog) w4 b m HM8.out (sk H2.out H8.out HRL.out ((hb4.block _ (Nat.lt_of_lt_of_le hbl hb3.size)).trans (below_heap hb3 rfl _ hbl))).2))
        have hf2 := Bx.mk hf
        clear hf
        have H5 : Bx ((w4.setCells b 0 (u32s m).toList).heap[b]? = some (.cells (stC m re t) T (0, 0))) := Bx.mk (by
          rw [heap_setCells_same b T _ 0 w4 (stC ws re t) ((hb4.block _ (Nat.lt_of_lt_of_le hbl hb3.size)).trans ((below_heap hb3 rfl _ hbl).trans H2.out)), stC_spl _ _ _ _ H8.out HM8.out])
        have G5 : Bx (w2.grownBy (w4.setCells b 0 (u32s m).toList) (some b)) := Bx.mk (kb_trans (kb_trans (kb_trans (kb_drewN _ w2 1) (kb_below _ hb3)) (kb_below _ hb4)) (kb_setCells _ _ _))
        clear hst hb3 hb4
        generalize w4.setCells b 0 (u32s m).toList = w5 at *
        have ct5 : w5.cell? ⟨b, 72, none⟩ = some (.int .u64 (t : Int)) := (by rw [cell_of_row _ _ _ _ _ _ H5.out]; exact stC_told m re t HM8.out HRL.out)
        have f5 : w5.frozen? ⟨b, 72, none⟩ = false := frozen_of_row _ _ _ _ _ H5.out
        clear hi hi2 hl2 ho2 HNow HMix
        go_wp2
        go_roundw
        case rel =>
          obtain ⟨x1, x2, x3, x4, x5, x6, x7, x8, x9, x10⟩ := HX.out
          have hnr : n ≤ rem.length := by have := HL.out; have := HN.out; omega
          refine tk_next (ws' := m) (rest' := re) hk hnr x7 x8 x9 x3 x2 (kb_trans G2.out (kb_trans G5.out (kb_setCell _ _ _))) ?_ ?_
          · rw [heap_setCell_same _ _ _ _ _ _ H5.out, ← Int.natCast_add, stC_set _ _ _ _ HM8.out HRL.out]
          · have hp := x1.full (q := rem.take n) (by have := hf2.out; rw [x9, x6, List.length_take, Nat.min_eq_left hnr]; omega)
            rw [HL0.out] at hp
            rw [x9, x6, HR.out, HMX.out] at hp
            exact hp
        case measure =>
          have := HX.out.2.2.2.1
          have := HN.out
          simp only [lenV] at *
          omega
      · have hf1 : ((h : Int) + (n : Int) == 64) = false := by simp; omega
        go_wp2_with (refine wpList_copy_st rfl _ _ rfl b h n c o L cap _ T ws rest rem t (by rfl) (by rfl) HL.out HB.out H8.out H64.out hh64 HN.out HC.out ?_; intro w2 h2 g2; obtain ⟨re, hre⟩ : ∃ re, fillR rest h (rem.take n) = re := ⟨_, rfl⟩; have HR := Bx.mk hre; rw [hre] at h2; clear hre; have H2 := Bx.mk h2; have G2 := Bx.mk g2; have HRL : Bx (re.length = 64) := Bx.mk (by rw [← HR.out, fillR_length _ _ _ (by have := H64.out; have := HL.out; rw [List.length_take]; omega)]; exact H64.out); have ct2 : w2.cell? ⟨b, 72, none⟩ = some (.int .u64 (t : Int)) := (by rw [cell_of_row _ _ _ _ _ _ h2]; exact stC_told ws re t H8.out HRL.out); have f2 : w2.frozen? ⟨b, 72, none⟩ = false := frozen_of_row _ _ _ _ _ h2; clear h2 g2)
        go_roundw
        case rel =>
          obtain ⟨x1, x2, x3, x4, x5, x6, x7, x8, x9, x10⟩ := HX.out
          have hnr : n ≤ rem.length := by have := HL.out; have := HN.out; omega
          refine tk_next (ws' := ws) (rest' := re) hk hnr x7 x8 x9 x3 x2 (kb_trans G2.out (kb_setCell _ _ _)) ?_ ?_
          · rw [heap_setCell_same _ _ _ _ _ _ H2.out, ← Int.natCast_add, stC_set _ _ _ _ H8.out HRL.out]
          · have hp := x1.part (q := rem.take n) (by rw [x9, x6, List.length_take, Nat.min_eq_left hnr]; omega)
            rw [x9, x6, HR.out] at hp
            exact hp
        case measure =>
          have := HX.out.2.2.2.1
          have := HN.out
          simp only [lenV] at *
          omega
    · have e0 : rem.length = 0 := by omega
      have HW : Bx (Took w b T (bs ++ ps) wr) := Bx.mk (by
        have e1 : ps.take k = ps := List.take_of_length_le (by have := List.length_drop (l := ps) (i := k); rw [hrem] at this; omega)
        rw [e1] at hb hst
        exact ⟨ws, rest, hb, hst, hgr⟩)
      clear hb hst hgr hcells hrem
      rw [e0]
      clear e0 hz hcap
      go_wp2
      go_end0
      exact ⟨rfl, HW.out⟩
end Go.Proofs.YtaoekfomffebhaaDoor
namespace Go.Proofs.YtaoekfomffebhaaDoor
open Go Go.RowKit
/-- The bytes of the first k words, in 32 places. -/
def outF (ws : List (BitVec 32)) : Nat → List UInt8
  | 0 => List.replicate 32 0
  | k + 1 => putL (outF ws k) (4 * k) (ws.getD k 0)
/-- While the words are written out. -/
def EndRel (w : World) (ws : List (BitVec 32)) (g : Nat) (k : Nat) (wr : World) : Prop :=
  Below w.heap.size w wr ∧ w.heap.size < g ∧ w.heap.size + 1 < g ∧ wr.heap[w.heap.size + 1]? = some (.cells (u8s (List.replicate 32 0)) 27 (0, 0)) ∧ wr.heap[g]? = some (.cells (u8s (outF ws k)) 27 (0, 0))
theorem EndRel.step {w wr : World} {ws : List (BitVec 32)} {g k : Nat} (h : EndRel w ws g k wr) : EndRel w ws g (k + 1) (put4 wr g (4 * k) (ws.getD k 0)) :=
  ⟨put4_below h.1 _ _ _ (by have := h.2.1; omega), h.2.1, h.2.2.1, by rw [put4_other _ _ _ _ _ (by have := h.2.2.1; omega)]; exact h.2.2.2.1, put4_row h.2.2.2.2 _ _⟩
end Go.Proofs.YtaoekfomffebhaaDoor
namespace Go.Proofs.YtaoekfomffebhaaDoor
open Go Go.RowKit
theorem Took.trans {w w1 w2 : World} {b : Nat} {T : TypeId} {bs : List UInt8} (h : w.grownBy w1 (some b)) (k : Took w1 b T bs w2) : Took w b T bs w2 := by
  obtain ⟨ws, rest, h1, h2, h3⟩ := k
  exact ⟨ws, rest, h1, h2, kb_trans h h3⟩
theorem Took.self {w w1 : World} {b : Nat} {T : TypeId} {bs : List UInt8} (k : Took w b T bs w1) : Took w1 b T bs w1 := by
  obtain ⟨ws, rest, h1, h2, _⟩ := k
  exact ⟨ws, rest, h1, h2, kb_refl _ _⟩
theorem Took.kept {w w1 : World} {b : Nat} {T : TypeId} {bs : List UInt8} (k : Took w b T bs w1) : w.grownBy w1 (some b) := by
  obtain ⟨_, _, _, _, h⟩ := k
  exact h
theorem flat_succ (pss : List (List UInt8)) (k : Nat) (h : k < pss.length) : (pss.take (k + 1)).flatten = (pss.take k).flatten ++ pss.getD k [] := by
  rw [List.take_succ_eq_append_getElem h, List.flatten_append]
  simp [h]
theorem flat_le (pss : List (List UInt8)) (k : Nat) : (pss.take k).flatten.length ≤ pss.flatten.length := by
  have e : pss.flatten = (pss.take k).flatten ++ (pss.drop k).flatten := by rw [← List.flatten_append, List.take_append_drop]
  rw [e, List.length_append]
  omega
set_option maxRecDepth 100000 in
set_option maxHeartbeats 400000 in
theorem add_any (b : Nat) (bs : List UInt8) (pss : List (List UInt8)) (v : Value) (w : World) (hT : Took w b 129 bs w) (hv : PartsAt w b v pss) (hl : pss.length < 281474976710656) (hN : bs.length + pss.flatten.length < 1152921504606846976) (hTab : Tab w) (hg : 1 ≠ b) :
    Calls Tryd.prog 70 #[.pointer (some ⟨b, 0, none⟩), v] w fun e w' => e = .returned (.pointer (some ⟨b, 0, none⟩)) ∧ Took w b 129 (bs ++ pss.flatten) w' := by
  have HP := Bx.mk hv
  obtain ⟨a, cap, rfl, _⟩ := hv
  have H0 := Bx.mk hT
  have HM := Bx.mk hN
  have HA := Bx.mk hTab
  have hl1 : (pss.length : Int) < 281474976710656 := by omega
  obtain ⟨n, hn⟩ : ∃ n, pss.length = n := ⟨_, rfl⟩
  rw [hn] at hl1 ⊢
  rw [hn] at HP
  have HN := Bx.mk hn
  have HG := Bx.mk hg
  clear hT hN hTab hl hn hg
  go_enter Tryd.func70, Tryd.ntmps70
  go_wp2
  go_loopw [11] (fun i wr => ∃ k : Nat, k ≤ n ∧ i = .int .i64 k ∧ Took w b 129 (bs ++ (pss.take k).flatten) wr) (fun i _ => n - (intOf i).toNat)
  case atStart => exact ⟨0, Nat.zero_le _, rfl, by simpa using H0.out⟩
  case round =>
    clear H0
    obtain ⟨k, hk, rfl, ht⟩ := hrel
    have HT := Bx.mk ht
    clear ht
    by_cases hlt : k < n
    · obtain ⟨a', cap', he, hr⟩ := HP.out.later HT.out.kept
      injection he with he1 he2 he3
      obtain ⟨p, o, hne, ha, hcell⟩ := hr (by rw [HN.out]; omega)
      subst he1
      subst ha
      obtain ⟨x, hx, hxb⟩ := hcell k (by rw [HN.out]; omega)
      clear hcell hr he2 he3
      have HX := Bx.mk hxb
      have hlk : (k : Int) < (n : Int) := by omega
      have HC : Bx (Calls Tryd.prog 83 #[.pointer (some ⟨b, 0, none⟩), x] wr fun e w' => e = .returned (.tuple #[]) ∧ Took wr b 129 (bs ++ (pss.take k).flatten ++ pss.getD k []) w') :=
        Bx.mk (take_any b 129 _ _ x wr HT.out.self HX.out (by
          have h1 := flat_succ pss k (by rw [HN.out]; omega)
          have h2 := flat_le pss (k + 1)
          rw [h1, List.length_append] at h2
          have h3 := HM.out
          rw [List.length_append]
          omega) (fun i hi => HT.out.kept.cell (HA.out i hi) (by simpa using HG.out)) HG.out)
      have HE : Bx (bs ++ (pss.take k).flatten ++ pss.getD k [] = bs ++ (pss.take (k + 1)).flatten) := Bx.mk (by
        rw [flat_succ pss k (by rw [HN.out]; omega), List.append_assoc])
      clear hxb hne
      go_wp2_with fail
      refine HC.out.mono ?_
      rintro e w2 ⟨rfl, h2⟩
      rw [HE.out] at h2
      have H2 : Bx (Took w b 129 (bs ++ (pss.take (k + 1)).flatten) w2) := Bx.mk (Took.trans HT.out.kept h2)
      clear h2 HC HE
      go_wp2
      go_roundw
      case rel => exact ⟨k + 1, by omega, by go_num, H2.out⟩
      case measure => simp [intOf]; omega
    · have HE : Bx (Took w b 129 (bs ++ pss.flatten) wr) := Bx.mk (by have h := HT.out; rw [List.take_of_length_le (by rw [HN.out]; omega)] at h; exact h)
      clear HT
      go_wp2
      go_ret
      exact ⟨rfl, HE.out⟩
end Go.Proofs.YtaoekfomffebhaaDoor
namespace Go.Proofs.YtaoekfomffebhaaDoor
open Go Go.RowKit
end Go.Proofs.YtaoekfomffebhaaDoor
namespace Go.Proofs.YtaoekfomffebhaaDoor
open Go Go.RowKit
end Go.Proofs.YtaoekfomffebhaaDoor
namespace Go.Proofs.YtaoekfomffebhaaDoor
open Go Go.RowKit
attribute [local go_sem ↓] Go.wp_at_zero Go.wp_at_succ
end Go.Proofs.YtaoekfomffebhaaDoor
namespace Go.Proofs.YtaoekfomffebhaaDoor
open Go Go.RowKit
end Go.Proofs.YtaoekfomffebhaaDoor
namespace Go.Proofs.YtaoekfomffebhaaDoor
open Go Go.RowKit
end Go.Proofs.YtaoekfomffebhaaDoor
namespace Go.Proofs.YtaoekfomffebhaaDoor
open Go Go.RowKit
end Go.Proofs.YtaoekfomffebhaaDoor
namespace Go.Proofs.YtaoekfomffebhaaDoor
open Go Go.RowKit
end Go.Proofs.YtaoekfomffebhaaDoor
namespace Go.Proofs.YtaoekfomffebhaaDoor
open Go Go.RowKit
/-- Numbers of 64 bits as cells. -/
def u64s (l : List Nat) : Array Value := (l.map fun (x : Nat) => Value.int .u64 (x : Int)).toArray
theorem u64s_set (l : List Nat) (i : Nat) (x : Nat) : (u64s l).setIfInBounds i (.int .u64 (x : Int)) = u64s (l.set i x) := by
  simp [u64s, List.map_set]
/-- What the parts are worth, the lowest first. -/
def wor : List Nat → Nat
  | [] => 0
  | x :: l => x + 65536 * wor l
/-- Twelve parts, each below 65536. -/
def Dig (l : List Nat) : Prop := l.length = 12 ∧ ∀ i, l.getD i 0 < 65536
theorem wor_set : ∀ (l : List Nat) (i x : Nat), i < l.length → wor (l.set i x) + l.getD i 0 * 65536 ^ i = wor l + x * 65536 ^ i
  | [], i, x, h => by simp at h
  | y :: l, 0, x, _ => by simp [wor]; omega
  | y :: l, i + 1, x, h => by
    have ih := wor_set l i x (by simpa using h)
    simp only [List.set_cons_succ, wor, List.getD_cons_succ, Nat.pow_succ]
    have e1 : l.getD i 0 * (65536 ^ i * 65536) = 65536 * (l.getD i 0 * 65536 ^ i) := by rw [← Nat.mul_assoc, Nat.mul_comm]
    have e2 : x * (65536 ^ i * 65536) = 65536 * (x * 65536 ^ i) := by rw [← Nat.mul_assoc, Nat.mul_comm]
    rw [e1, e2]
    omega
theorem wor_take_succ : ∀ (l : List Nat) (k : Nat), k < l.length → wor (l.take (k + 1)) = wor (l.take k) + l.getD k 0 * 65536 ^ k
  | [], k, h => by simp at h
  | y :: l, 0, _ => by simp [wor]
  | y :: l, k + 1, h => by
    have ih := wor_take_succ l k (by simpa using h)
    simp only [List.take_succ_cons, wor, List.getD_cons_succ, Nat.pow_succ] at ih ⊢
    rw [ih, ← Nat.mul_assoc, Nat.mul_comm (l.getD k 0 * 65536 ^ k) 65536]
    omega
theorem wor_split (l : List Nat) (k : Nat) : ∃ r, wor l = wor (l.take k) + r * 65536 ^ k := by
  induction l generalizing k with
  | nil => exact ⟨0, by simp [wor]⟩
  | cons y l ih =>
    match k with
    | 0 => exact ⟨wor (y :: l), by simp [wor]⟩
    | k + 1 =>
      obtain ⟨r, hr⟩ := ih k
      refine ⟨r, ?_⟩
      simp only [List.take_succ_cons, wor, Nat.pow_succ]
      rw [hr, ← Nat.mul_assoc, Nat.mul_comm (r * 65536 ^ k) 65536]
      omega
/-- The row of a product: while the parts of b are multiplied by one part of a. -/
structure RowAt (z0 b : List Nat) (x i k over : Nat) (z : List Nat) : Prop where
  dig : Dig z
  small : over < 65536
  eq : wor z + over * 65536 ^ (i + k) = wor z0 + x * wor (b.take k) * 65536 ^ i
theorem RowAt.step {z0 b : List Nat} {x i k over : Nat} {z : List Nat} (h : RowAt z0 b x i k over z) (hb : b.length = 12) (hk : i + k < 12) (hx : x < 65536) (hbk : b.getD k 0 < 65536) :
    RowAt z0 b x i (k + 1) ((over + z.getD (i + k) 0 + x * b.getD k 0) / 65536) (z.set (i + k) ((over + z.getD (i + k) 0 + x * b.getD k 0) % 65536)) := by
  have hm : x * b.getD k 0 ≤ 65535 * 65535 := Nat.mul_le_mul (by omega) (by omega)
  have hz := h.dig.2 (i + k)
  have hs := h.small
  refine ⟨⟨by rw [List.length_set]; exact h.dig.1, fun j => ?_⟩, by omega, ?_⟩
  · by_cases hj : i + k = j
    · subst hj
      have : i + k < z.length := by rw [h.dig.1]; exact hk
      simp [this]
      omega
    · have e : (z.set (i + k) ((over + z.getD (i + k) 0 + x * b.getD k 0) % 65536)).getD j 0 = z.getD j 0 := by simp [hj]
      rw [e]
      exact h.dig.2 j
  · have e1 := wor_set z (i + k) ((over + z.getD (i + k) 0 + x * b.getD k 0) % 65536) (by rw [h.dig.1]; exact hk)
    have e2 := wor_take_succ b k (by omega)
    have e3 := h.eq
    have e4 : (over + z.getD (i + k) 0 + x * b.getD k 0) % 65536 + 65536 * ((over + z.getD (i + k) 0 + x * b.getD k 0) / 65536) = over + z.getD (i + k) 0 + x * b.getD k 0 := Nat.mod_add_div _ _
    rw [e2, Nat.mul_add, Nat.add_mul, ← Nat.add_assoc i k 1, Nat.pow_succ]
    have e5 : x * (b.getD k 0 * 65536 ^ k) * 65536 ^ i = x * b.getD k 0 * 65536 ^ (i + k) := by
      rw [Nat.pow_add]; simp only [Nat.mul_assoc]; rw [Nat.mul_comm (65536 ^ k)]
    rw [e5]
    generalize 65536 ^ (i + k) = P at *
    generalize (over + z.getD (i + k) 0 + x * b.getD k 0) % 65536 = u at *
    generalize (over + z.getD (i + k) 0 + x * b.getD k 0) / 65536 = v at *
    generalize z.getD (i + k) 0 = c at *
    generalize x * b.getD k 0 = d at *
    have e6 : u * P + v * (P * 65536) = over * P + c * P + d * P := by
      rw [← Nat.add_mul, ← Nat.add_mul, ← e4, Nat.add_mul, Nat.mul_comm P 65536, ← Nat.mul_assoc, Nat.mul_comm v 65536]
    omega
theorem RowAt.start (z0 b : List Nat) (x i : Nat) (h : Dig z0) : RowAt z0 b x i 0 0 z0 := ⟨h, by omega, by simp [wor]⟩
/-- The product's parts behind i rows. -/
def TimAt (a b : List Nat) (i : Nat) (z : List Nat) : Prop := Dig z ∧ wor z % 65536 ^ 12 = wor (a.take i) * wor b % 65536 ^ 12
theorem TimAt.step {a b z0 z : List Nat} {i over : Nat} (h : TimAt a b i z0) (ha : a.length = 12) (hi : i < 12) (r : RowAt z0 b (a.getD i 0) i (12 - i) over z) : TimAt a b (i + 1) z := by
  refine ⟨r.dig, ?_⟩
  have e1 := r.eq
  rw [show i + (12 - i) = 12 by omega] at e1
  obtain ⟨q, hq⟩ := wor_split b (12 - i)
  have e2 := wor_take_succ a i (by omega)
  have e3 : wor z % 65536 ^ 12 = (wor z0 + a.getD i 0 * wor (b.take (12 - i)) * 65536 ^ i) % 65536 ^ 12 := by
    rw [← e1, Nat.add_mul_mod_self_right]
  have e4 : a.getD i 0 * 65536 ^ i * wor b = a.getD i 0 * wor (b.take (12 - i)) * 65536 ^ i + (a.getD i 0 * q) * 65536 ^ 12 := by
    rw [hq, Nat.mul_add]
    have p : (65536 : Nat) ^ 12 = 65536 ^ i * 65536 ^ (12 - i) := by rw [← Nat.pow_add, show i + (12 - i) = 12 by omega]
    rw [p]
    congr 1
    · rw [Nat.mul_assoc, Nat.mul_comm (65536 ^ i), ← Nat.mul_assoc]
    · rw [Nat.mul_assoc, Nat.mul_assoc, ← Nat.mul_assoc (65536 ^ i) q, Nat.mul_comm (65536 ^ i) q, Nat.mul_assoc]
  rw [e3, e2, Nat.add_mul, e4, ← Nat.add_assoc, Nat.add_mul_mod_self_right, Nat.add_mod, h.2, ← Nat.add_mod]
theorem TimAt.start (a b : List Nat) : TimAt a b 0 (List.replicate 12 0) := ⟨⟨rfl, fun i => by
  have e : (List.replicate 12 0).getD i 0 = 0 := by rw [List.getD_eq_getElem?_getD, List.getElem?_replicate]; split <;> rfl
  rw [e]; omega⟩, by simp [wor, List.replicate]⟩
end Go.Proofs.YtaoekfomffebhaaDoor
namespace Go.Proofs.YtaoekfomffebhaaDoor
open Go Go.RowKit
/-- The memory while a product is made. -/
def Tms (w : World) (a b z : List Nat) (wr : World) : Prop :=
  Below w.heap.size w wr ∧ w.heap.size + 4 ≤ wr.heap.size ∧ wr.heap[w.heap.size]? = some (.cells (u64s a) 133 (0, 0)) ∧ wr.heap[w.heap.size + 1]? = some (.cells (u64s b) 133 (0, 0)) ∧
  wr.heap[w.heap.size + 1 + 1]? = some (.cells (u64s (List.replicate 12 0)) 133 (0, 0)) ∧ wr.heap[w.heap.size + 1 + 1 + 1]? = some (.cells (u64s z) 133 (0, 0))
theorem Tms.drewN {w wr : World} {a b z : List Nat} (h : Tms w a b z wr) (n : Nat) : Tms w a b z (wr.drewN n) := ⟨below_drewN h.1 n, h.2⟩
theorem Tms.step {w wr : World} {a b z : List Nat} (h : Tms w a b z wr) (i x : Nat) : Tms w a b (z.set i x) (wr.setCell ⟨w.heap.size + 1 + 1 + 1, i, none⟩ (.int .u64 (x : Int))) := by
  obtain ⟨h1, h2, h3, h4, h5, h6⟩ := h
  refine ⟨h1.setCell (by simp only []; omega) _, by simpa using h2, ?_, ?_, ?_, ?_⟩
  · rw [heap_setCell_other _ _ _ _ (by simp only []; omega)]; exact h3
  · rw [heap_setCell_other _ _ _ _ (by simp only []; omega)]; exact h4
  · rw [heap_setCell_other _ _ _ _ (by simp only []; omega)]; exact h5
  · rw [heap_setCell_same wr _ _ _ _ _ h6, u64s_set]
theorem zero12 : u64s (List.replicate 12 0) = #[.int .u64 0, .int .u64 0, .int .u64 0, .int .u64 0, .int .u64 0, .int .u64 0, .int .u64 0, .int .u64 0, .int .u64 0, .int .u64 0, .int .u64 0, .int .u64 0] := by kernel_rfl
theorem Tms.start (w : World) (a b : List Nat) : Tms w a b (List.replicate 12 0) ((((w.alloc (.cells (u64s a) 133)).alloc (.cells (u64s b) 133)).alloc (.cells #[.int .u64 0, .int .u64 0, .int .u64 0, .int .u64 0, .int .u64 0, .int .u64 0, .int .u64 0, .int .u64 0, .int .u64 0, .int .u64 0, .int .u64 0, .int .u64 0] 133)).alloc (.cells #[.int .u64 0, .int .u64 0, .int .u64 0, .int .u64 0, .int .u64 0, .int .u64 0, .int .u64 0, .int .u64 0, .int .u64 0, .int .u64 0, .int .u64 0, .int .u64 0] 133)) := by
  refine ⟨((((Below.refl _ _).alloc (Nat.le_refl _) _).alloc (by simp) _).alloc (by simp; omega) _).alloc (by simp; omega) _, by simp, ?_, ?_, ?_, ?_⟩
  · rw [hold _ _ _ (by simp; omega), hold _ _ _ (by simp; omega), hold _ _ _ (by simp), hnew _ _ _ rfl]
  · rw [hold _ _ _ (by simp), hold _ _ _ (by simp), hnew _ _ _ (by simp)]
  · rw [hold _ _ _ (by simp), hnew _ _ _ (by simp), zero12]
  · rw [hnew _ _ _ (by simp), zero12]
end Go.Proofs.YtaoekfomffebhaaDoor
namespace Go.Proofs.YtaoekfomffebhaaDoor
open Go Go.RowKit
attribute [local go_sem ↓] Go.wp_at_zero Go.wp_at_succ
end Go.Proofs.YtaoekfomffebhaaDoor
namespace Go.Proofs.YtaoekfomffebhaaDoor
open Go Go.RowKit
/-- The memory while the table is made. -/
def Tbl (w : World) (l : List (BitVec 32)) (wr : World) : Prop :=
  Below w.heap.size w wr ∧ w.heap.size + 2 ≤ wr.heap.size ∧ wr.heap[w.heap.size]? = some (.cells (u32s (List.replicate 72 0)) 45 (0, 0)) ∧ wr.heap[w.heap.size + 1]? = some (.cells (u32s l) 45 (0, 0))
theorem Tbl.step {w wr : World} {l : List (BitVec 32)} (h : Tbl w l wr) (i : Nat) (x : BitVec 32) : Tbl w (l.set i x) (wr.setCell ⟨w.heap.size + 1, i, none⟩ (.int .u32 (uv x))) := by
  obtain ⟨h1, h2, h3, h4⟩ := h
  refine ⟨h1.setCell (by simp only []; omega) _, by simpa using h2, ?_, ?_⟩
  · rw [heap_setCell_other _ _ _ _ (by simp only []; omega)]; exact h3
  · rw [heap_setCell_same wr _ _ _ _ _ h4, u32s_set]
theorem Tbl.later {w wr w2 : World} {l : List (BitVec 32)} (h : Tbl w l wr) (hb : Below wr.heap.size wr w2) : Tbl w l w2 :=
  ⟨h.1.trans (hb.mono h.1.size), Nat.le_trans h.2.1 hb.size, by rw [hb.block _ (by have := h.2.1; omega)]; exact h.2.2.1, by rw [hb.block _ (by have := h.2.1; omega)]; exact h.2.2.2⟩
theorem Tbl.cell {w wr : World} {l : List (BitVec 32)} (h : Tbl w l wr) (i : Nat) (hi : i < l.length) : wr.cell? ⟨w.heap.size + 1, i, none⟩ = some (.int .u32 (uv (l.getD i 0))) := by
  rw [cell_of_row _ _ _ _ _ _ h.2.2.2]; exact u32s_get _ _ hi
theorem Tbl.frozen {w wr : World} {l : List (BitVec 32)} (h : Tbl w l wr) (i : Nat) : wr.frozen? ⟨w.heap.size + 1, i, none⟩ = false := frozen_of_row _ _ _ _ _ h.2.2.2
end Go.Proofs.YtaoekfomffebhaaDoor
namespace Go.Proofs.YtaoekfomffebhaaDoor
open Go
end Go.Proofs.YtaoekfomffebhaaDoor
namespace Go.Proofs.YtaoekfomffebhaaDoor
open Go Go.RowKit
end Go.Proofs.YtaoekfomffebhaaDoor
namespace Go.Proofs.YtaoekfomffebhaaDoor
open Go Go.RowKit
/-- The memory of the document's digest: the table, the result's place, and the bytes with their padding. -/
structure RS (w : World) (tb : Array Value) (l : List UInt8) (v : Value) (wr : World) : Prop where
  below : Below w.heap.size w wr
  size : w.heap.size + 2 ≤ wr.heap.size
  tab : wr.heap[w.heap.size]? = some (.cells tb 45 (0, 0))
  res : wr.heap[w.heap.size + 1]? = some (.cells (u8s (List.replicate 32 0)) 27 (0, 0))
  own : OwnB wr (w.heap.size + 2) v l
theorem RS.alloc {w wr : World} {tb : Array Value} {l : List UInt8} {v : Value} (h : RS w tb l v wr) (o : Obj) : RS w tb l v (wr.alloc o) :=
  ⟨h.below.alloc h.below.size _, by have := h.size; simp; omega, by rw [hold _ _ _ (by have := h.size; omega)]; exact h.tab, by rw [hold _ _ _ (by have := h.size; omega)]; exact h.res, own_a h.own _⟩
theorem RS.drewN {w wr : World} {tb : Array Value} {l : List UInt8} {v : Value} (h : RS w tb l v wr) (n : Nat) : RS w tb l v (wr.drewN n) :=
  ⟨below_drewN h.below n, h.size, h.tab, h.res, h.own⟩
/-- A store into a block that came behind the bytes. -/
theorem RS.set {w wr : World} {tb : Array Value} {l : List UInt8} {v : Value} (h : RS w tb l v wr) (g i : Nat) (x : Value) (hg : w.heap.size + 2 ≤ g) (hne : v.ownBlock ≠ some g) : RS w tb l v (wr.setCell ⟨g, i, none⟩ x) := by
  refine ⟨h.below.setCell (by simp only []; omega) _, by simpa using h.size, by rw [heap_setCell_other _ _ _ _ (by simp only []; omega)]; exact h.tab, by rw [heap_setCell_other _ _ _ _ (by simp only []; omega)]; exact h.res, h.own.1, ?_⟩
  rcases h.own.2 with h0 | ⟨g', cap, cur, hv, hb', hg', hr⟩
  · exact .inl h0
  · refine .inr ⟨g', cap, cur, hv, hb', ?_, hr⟩
    rw [heap_setCell_other _ _ _ _ (fun e => hne (by rw [hv]; show some g' = some g; rw [e]))]
    exact hg'
/-- .. and the words so far, in block Hb. -/
structure RE (w : World) (tb : Array Value) (m : List UInt8) (G L C Hb : Nat) (hl : List (BitVec 32)) (wr : World) : Prop where
  rs : RS w tb m (.slice (some ⟨G, 0, none⟩) L C) wr
  hb : w.heap.size + 2 ≤ Hb
  ne : G ≠ Hb
  lt : Hb < wr.heap.size
  row : wr.heap[Hb]? = some (.cells (u32s hl) 43 (0, 0))
theorem RE.alloc {w wr : World} {tb : Array Value} {m : List UInt8} {G L C Hb : Nat} {hl : List (BitVec 32)} (h : RE w tb m G L C Hb hl wr) (o : Obj) : RE w tb m G L C Hb hl (wr.alloc o) :=
  ⟨h.rs.alloc o, h.hb, h.ne, by have := h.lt; simp; omega, by rw [hold _ _ _ h.lt]; exact h.row⟩
theorem RE.drewN {w wr : World} {tb : Array Value} {m : List UInt8} {G L C Hb : Nat} {hl : List (BitVec 32)} (h : RE w tb m G L C Hb hl wr) (n : Nat) : RE w tb m G L C Hb hl (wr.drewN n) :=
  ⟨h.rs.drewN n, h.hb, h.ne, h.lt, h.row⟩
theorem RE.set {w wr : World} {tb : Array Value} {m : List UInt8} {G L C Hb : Nat} {hl : List (BitVec 32)} (h : RE w tb m G L C Hb hl wr) (g i : Nat) (x : Value) (hg : w.heap.size + 2 ≤ g) (h1 : G ≠ g) (h2 : Hb ≠ g) : RE w tb m G L C Hb hl (wr.setCell ⟨g, i, none⟩ x) :=
  ⟨h.rs.set g i x hg (by intro e; injection e with e; exact h1 e), h.hb, h.ne, by have := h.lt; simpa using this, by rw [heap_setCell_other _ _ _ _ h2]; exact h.row⟩
/-- .. and a block's words, in block Wb. -/
structure RW (w : World) (tb : Array Value) (m : List UInt8) (G L C Hb : Nat) (hl : List (BitVec 32)) (Wb : Nat) (l : List (BitVec 32)) (wr : World) : Prop where
  re : RE w tb m G L C Hb hl wr
  wb : w.heap.size + 2 ≤ Wb
  g : G ≠ Wb
  h : Hb ≠ Wb
  row : wr.heap[Wb]? = some (.cells (u32s l) 42 (0, 0))
theorem RW.drewN {w wr : World} {tb : Array Value} {m : List UInt8} {G L C Hb Wb : Nat} {hl l : List (BitVec 32)} (h : RW w tb m G L C Hb hl Wb l wr) (n : Nat) : RW w tb m G L C Hb hl Wb l (wr.drewN n) :=
  ⟨h.re.drewN n, h.wb, h.g, h.h, h.row⟩
theorem RW.set {w wr : World} {tb : Array Value} {m : List UInt8} {G L C Hb Wb : Nat} {hl l : List (BitVec 32)} (h : RW w tb m G L C Hb hl Wb l wr) (i : Nat) (x : BitVec 32) : RW w tb m G L C Hb hl Wb (l.set i x) (wr.setCell ⟨Wb, i, none⟩ (.int .u32 (uv x))) :=
  ⟨h.re.set Wb i _ h.wb h.g h.h, h.wb, h.g, h.h, by rw [heap_setCell_same wr _ _ _ _ _ h.row, u32s_set]⟩
theorem RW.cell {w wr : World} {tb : Array Value} {m : List UInt8} {G L C Hb Wb : Nat} {hl l : List (BitVec 32)} (h : RW w tb m G L C Hb hl Wb l wr) (i : Nat) (hi : i < l.length) : wr.cell? ⟨Wb, i, none⟩ = some (.int .u32 (uv (l.getD i 0))) := by
  rw [cell_of_row _ _ _ _ _ _ h.row]; exact u32s_get _ _ hi
theorem RW.frozen {w wr : World} {tb : Array Value} {m : List UInt8} {G L C Hb Wb : Nat} {hl l : List (BitVec 32)} (h : RW w tb m G L C Hb hl Wb l wr) (i : Nat) : wr.frozen? ⟨Wb, i, none⟩ = false := frozen_of_row _ _ _ _ _ h.row
end Go.Proofs.YtaoekfomffebhaaDoor
namespace Go.Proofs.YtaoekfomffebhaaDoor
open Go Go.RowKit


end Go.Proofs.YtaoekfomffebhaaDoor
namespace Go.Proofs.YtaoekfomffebhaaDoor
open Go Go.RowKit
end Go.Proofs.YtaoekfomffebhaaDoor
namespace Go.Proofs.YtaoekfomffebhaaDoor
open Go Go.RowKit
end Go.Proofs.YtaoekfomffebhaaDoor
namespace Go.Proofs.YtaoekfomffebhaaDoor
open Go Go.RowKit
end Go.Proofs.YtaoekfomffebhaaDoor
namespace Go.Proofs.YtaoekfomffebhaaDoor
open Go Go.RowKit
end Go.Proofs.YtaoekfomffebhaaDoor
namespace Go.Proofs.YtaoekfomffebhaaDoor
open Go Go.RowKit
theorem RS.kept {w wr w1 : World} {tb : Array Value} {l : List UInt8} {v : Value} (h : RS w tb l v wr) {b : Nat} (hk : wr.grownBy w1 (some b)) (hb : w.heap.size + 2 ≤ b) (hne : v.ownBlock ≠ some b) : RS w tb l v w1 := by
  have h2 := h.size
  have hne' : ∀ i, i < w.heap.size + 2 → some i ≠ some b := fun i hi e => by injection e with e; omega
  exact ⟨⟨hk.os.trans h.below.os, hk.tape.trans h.below.tape, hk.output.trans h.below.output, Nat.le_trans h.below.size hk.size, fun i hi => (hk.block i (by omega) (hne' i (by omega))).trans (h.below.block i hi)⟩,
    Nat.le_trans h.size hk.size, by rw [hk.block _ (by omega) (hne' _ (by omega))]; exact h.tab, by rw [hk.block _ (by omega) (hne' _ (by omega))]; exact h.res, h.own.kept hk hne⟩
theorem RE.kept {w wr w1 : World} {tb : Array Value} {m : List UInt8} {G L C Hb : Nat} {hl : List (BitVec 32)} (h : RE w tb m G L C Hb hl wr) {b : Nat} (hk : wr.grownBy w1 (some b)) (hb : w.heap.size + 2 ≤ b) (h1 : G ≠ b) (h2 : Hb ≠ b) : RE w tb m G L C Hb hl w1 :=
  ⟨h.rs.kept hk hb (by intro e; injection e with e; exact h1 e), h.hb, h.ne, Nat.lt_of_lt_of_le h.lt hk.size, by rw [hk.block _ h.lt (by intro e; injection e with e; exact h2 e)]; exact h.row⟩
end Go.Proofs.YtaoekfomffebhaaDoor
namespace Go.Proofs.YtaoekfomffebhaaDoor
open Go Go.RowKit
end Go.Proofs.YtaoekfomffebhaaDoor
namespace Go.Proofs.YtaoekfomffebhaaDoor
open Go Go.RowKit
end Go.Proofs.YtaoekfomffebhaaDoor
namespace Go.Proofs.YtaoekfomffebhaaDoor
open Go
end Go.Proofs.YtaoekfomffebhaaDoor
namespace Go.Proofs.YtaoekfomffebhaaDoor
open Go Go.RowKit
theorem range_below {B : Nat} {w w1 : World} {b o : Nat} {vs : List Value} (h : w.rangeAt b o vs) (hb : Below B w w1) (hB : b < B) : w1.rangeAt b o vs := fun j v hv => by
  rw [hb.cell (p := ⟨b, o + j, none⟩) hB]
  exact h j v hv
/-- What holds all through a statement: nothing that was there has changed. -/
structure Sp (w0 : World) (b : Nat) (vs : List Value) (W : World) : Prop where
  below : Below w0.heap.size w0 W
  rng : W.rangeAt b 0 vs
theorem Sp.s {w0 W : World} {b : Nat} {vs : List Value} (h : Sp w0 b vs W) : W.rangeAt b 0 vs ∧ Bx (Sp w0 b vs W) := ⟨h.rng, ⟨h⟩⟩
theorem Sp.later {w0 W W1 : World} {b : Nat} {vs : List Value} (h : Sp w0 b vs W) (hb : Below W.heap.size W W1) (hB : b < w0.heap.size) : Sp w0 b vs W1 :=
  ⟨h.below.trans (hb.mono h.below.size), range_below h.rng (hb.mono h.below.size) hB⟩
end Go.Proofs.YtaoekfomffebhaaDoor
namespace Go.Proofs.YtaoekfomffebhaaDoor
open Go Go.RowKit
/-- Behind w3 there are a running digest, of these bytes, and a copy, if there is one. -/
structure Dy (w3 : World) (bs : List UInt8) (c : Option (Nat × List UInt8)) (W : World) : Prop where
  below : Below w3.heap.size w3 W
  took : Took W w3.heap.size 129 bs W
  cp : ∀ p, c = some p → w3.heap.size < p.1 ∧ Took W p.1 129 p.2 W
theorem Took.lt {w W : World} {b : Nat} {T : TypeId} {bs : List UInt8} (h : Took w b T bs W) : b < W.heap.size := by
  obtain ⟨ws, rest, h1, _⟩ := h
  exact (Array.getElem?_eq_some_iff.1 h1).1
theorem Took.stays {w W W1 : World} {b b' : Nat} {T : TypeId} {bs : List UInt8} (h : Took w b T bs W) (hk : W.grownBy W1 (some b')) (hne : b ≠ b') : Took W1 b T bs W1 := by
  have hl := h.lt
  obtain ⟨ws, rest, h1, h2, _⟩ := h
  exact ⟨ws, rest, by rw [hk.block _ hl (by intro e; injection e with e; exact hne e)]; exact h1, h2, kb_refl _ _⟩
theorem Took.later {w W W1 : World} {b : Nat} {T : TypeId} {bs : List UInt8} (h : Took w b T bs W) (hb : Below W.heap.size W W1) : Took W1 b T bs W1 := by
  have hl := h.lt
  obtain ⟨ws, rest, h1, h2, _⟩ := h
  exact ⟨ws, rest, by rw [hb.block _ hl]; exact h1, h2, kb_refl _ _⟩
theorem Dy.later {w3 W W1 : World} {bs : List UInt8} {c : Option (Nat × List UInt8)} (h : Dy w3 bs c W) (hb : Below W.heap.size W W1) : Dy w3 bs c W1 :=
  ⟨h.below.trans (hb.mono h.below.size), h.took.later hb, fun p hp => ⟨(h.cp p hp).1, (h.cp p hp).2.later hb⟩⟩
theorem below_kb {B b : Nat} {w W W1 : World} (h : Below B w W) (hB : B ≤ W.heap.size) (hk : W.grownBy W1 (some b)) (hb : B ≤ b) : Below B w W1 :=
  ⟨hk.os.trans h.os, hk.tape.trans h.tape, hk.output.trans h.output, Nat.le_trans h.size hk.size, fun i hi => (hk.block i (by omega) (by intro e; injection e with e; omega)).trans (h.block i hi)⟩
theorem Dy.add {w3 W W1 : World} {bs bs' : List UInt8} {c : Option (Nat × List UInt8)} (h : Dy w3 bs c W) (ht : Took W w3.heap.size 129 bs' W1) : Dy w3 bs' c W1 :=
  ⟨below_kb h.below h.below.size ht.kept (Nat.le_refl _), ht.self, fun p hp => ⟨(h.cp p hp).1, (h.cp p hp).2.stays ht.kept (by have := (h.cp p hp).1; omega)⟩⟩
/-- One part, in a slice that is made for the call. -/
theorem one_at {w W : World} {v : Value} {bs : List UInt8} (h : Bytes w v bs) (hb : Below w.heap.size w W) (b : Nat) (hB : w.heap.size ≤ b) (hB2 : b < W.heap.size) : PartsAt (W.alloc (.cells #[v] 26)) b (.slice (some ⟨W.heap.size, 0, none⟩) 1 1) [bs] := by
  refine ⟨_, 1, rfl, fun _ => ⟨W.heap.size, 0, by omega, rfl, fun j hj => ?_⟩⟩
  have hj0 : j = 0 := by simp at hj; omega
  subst hj0
  exact ⟨v, by rw [cell_of_row _ _ _ _ _ _ (hnew _ _ _ rfl)]; rfl, h.apart (hb.trans ((below_a _).mono hb.size)) b hB⟩
/-- What stays: the parts, all bytes, the program's table and the document's. -/
structure Stt (w3 : World) (Tb : Nat) (tbl : List Value) (vo va : Value) (qs : List (List UInt8)) : Prop where
  parts : Parts w3 vo qs
  all : Bytes w3 va qs.flatten
  tab : Tab w3
  g : 1 < w3.heap.size
  row : w3.heap[Tb]? = some (.cells tbl.toArray 45 (0, 0))
  lt : Tb < w3.heap.size
  is : u32s (kTab ++ hTab) = tbl.toArray
  few : qs.length ≤ 12 ∧ qs.flatten.length ≤ 1200
theorem Stt.rng {w3 W : World} {Tb : Nat} {tbl : List Value} {vo va : Value} {qs : List (List UInt8)} (h : Stt w3 Tb tbl vo va qs) (hb : Below w3.heap.size w3 W) : W.rangeAt Tb 0 tbl := fun j v hv => by
  rw [hb.cell (p := ⟨Tb, 0 + j, none⟩) h.lt, cell_of_row _ _ _ _ _ _ h.row, Nat.zero_add, ← Array.getElem?_toList]
  exact hv
theorem Stt.add {w3 : World} {Tb : Nat} {tbl : List Value} {vo va : Value} {qs : List (List UInt8)} (st : Stt w3 Tb tbl vo va qs) {W : World} (hb : Below w3.heap.size w3 W) {b : Nat} {bs ps : List UInt8} {x : Value} (hB : w3.heap.size ≤ b) (ht : Took W b 129 bs W) (hx : Bytes w3 x ps) (hl : bs.length ≤ 10000) (hl2 : ps.length ≤ 10000) :
    Calls Tryd.prog 70 #[.pointer (some ⟨b, 0, none⟩), .slice (some ⟨W.heap.size, 0, none⟩) 1 1] (W.alloc (.cells #[x] 26)) fun e W' => e = .returned (.pointer (some ⟨b, 0, none⟩)) ∧ Took (W.alloc (.cells #[x] 26)) b 129 (bs ++ ps) W' := by
  have h := add_any b bs [ps] _ _ (ht.later (below_a (.cells #[x] 26))) (one_at hx hb b hB ht.lt) (by simp) (by rw [List.flatten_singleton]; omega) (st.tab.later (hb.trans ((below_a _).mono hb.size)) st.g) (by have := st.g; omega)
  rw [List.flatten_singleton] at h
  exact h
end Go.Proofs.YtaoekfomffebhaaDoor
