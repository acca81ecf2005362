/-
  The walk of what takes bytes in.
-/
import Derived.Test.YtkfgpnigeknhmaaDoorTk
namespace Go.Proofs.YtkfgpnigeknhmaaDoor
open Go Go.RowKit
/-- What a state in block b has become. -/
def Took (w : World) (b : Nat) (T : TypeId) (bs : List UInt8) (w' : World) : Prop :=
  ∃ ws rest, w'.heap[b]? = some (.cells (stC ws rest bs.length) T (0, 0)) ∧ StIs bs ws rest ∧ w.grownBy w' (some b)
/-- At the head of each round. -/
def TkRel (w : World) (b : Nat) (T : TypeId) (bs ps : List UInt8) (v : Value) (wr : World) : Prop :=
  ∃ k, k ≤ ps.length ∧ BytesAt wr b v (ps.drop k) ∧ Took w b T (bs ++ ps.take k) wr
theorem tk_next {w wr w3 : World} {b : Nat} {T : TypeId} {bs ps rem b0 : List UInt8} {v1 : Value} {k n t : Nat} {ws' : List (BitVec 32)} {rest' : List UInt8}
    (hk : k ≤ ps.length) (hn : n ≤ rem.length) (hrem : ps.drop k = rem) (hb0 : bs ++ ps.take k = b0) (ht : b0.length = t) (hbv : BytesAt wr b v1 (rem.drop n)) (hg0 : w.grownBy wr (some b)) (hg : wr.grownBy w3 (some b))
    (hh : w3.heap[b]? = some (.cells (stC ws' rest' (t + n)) T (0, 0))) (hs : StIs (b0 ++ rem.take n) ws' rest') : TkRel w b T bs ps v1 w3 := by
  have hl : rem.length = ps.length - k := by rw [← hrem, List.length_drop]
  have e1 : rem.drop n = ps.drop (k + n) := by rw [← hrem, List.drop_drop]
  have e2 : b0 ++ rem.take n = bs ++ ps.take (k + n) := by rw [← hb0, ← hrem, List.append_assoc, List.take_add]
  refine ⟨k + n, by omega, by rw [← e1]; exact hbv.later hg, ws', rest', ?_, by rw [← e2]; exact hs, kb_trans hg0 hg⟩
  rw [← e2, List.length_append, List.length_take, ht, Nat.min_eq_left hn]
  exact hh
theorem below_heap {W W' w2 : World} (h : Below W.heap.size W W') (e : W.heap = w2.heap) (i : Nat) (hi : i < w2.heap.size) : W'.heap[i]? = w2.heap[i]? := by
  rw [h.block i (by rw [e]; exact hi), e]
theorem sk {w2 W : World} {b : Nat} {T : TypeId} {ws : List (BitVec 32)} {re : List UInt8} {t : Nat} (H2 : w2.heap[b]? = some (.cells (stC ws re t) T (0, 0))) (h8 : ws.length = 8) (h64 : re.length = 64) (e : W.heap[b]? = w2.heap[b]?) :
    W.rangeAt b 8 (u8s re).toList ∧ W.there b 0 8 :=
  ⟨st_range8 (by rw [e]; exact H2) h8 h64, there_row (by rw [e]; exact H2) 0 8 (by rw [stC_size _ _ _ h8 h64]; omega)⟩
theorem sk_set {W : World} {b : Nat} {re : List UInt8} {vs : List Value} (hv : vs.length = 8) (h : W.rangeAt b 8 (u8s re).toList ∧ W.there b 0 8) :
    (W.setCells b 0 vs).rangeAt b 8 (u8s re).toList ∧ (W.setCells b 0 vs).there b 0 8 :=
  ⟨World.rangeAt_setCells_apart h.1 _ _ _ (by omega), World.there_setCells h.2 _ _ _⟩
theorem st8 {P : Program} (W : World) (b : Nat) (m : List (BitVec 32)) (hm : m.length = 8) (h : W.there b 0 8) : (storeCells ⟨b, 0, none⟩ (u32s m).toList).run P W = .ok () (W.setCells b 0 (u32s m).toList) := by
  have l8 : (u32s m).toList.length = 8 := by rw [Array.length_toList, u32s_size, hm]
  have := run_storeCells_cells (P := P) b 0 (u32s m).toList 0 W (fun j hj => by have := (h j (by omega)).1; simpa using this) (fun j hj => by have := (h j (by omega)).2; simpa using this) (fun v hv => by
    have h1 := one_u32s m
    rw [Array.all_eq_true'] at h1
    exact h1 v (by simpa using hv))
  simpa using this
attribute [local go_sem ↓] Go.wp_at_zero Go.wp_at_succ
set_option maxRecDepth 100000 in
set_option maxHeartbeats 1000000 in
theorem take_any (b : Nat) (T : TypeId) (bs ps : List UInt8) (v : Value) (w : World) (hT : Took w b T bs w) (hv : BytesAt w b v ps) (hN : bs.length + ps.length < 2305843009213693952) (hTab : Tab w) (hg : 0 ≠ b) :
    Calls Tryd.prog 42 #[.pointer (some ⟨b, 0, none⟩), v] w fun e w' => e = .returned (.tuple #[]) ∧ Took w b T (bs ++ ps) w' := by
  have H0 : Bx (TkRel w b T bs ps v w) := Bx.mk ⟨0, Nat.zero_le _, hv, by simpa using hT⟩
  have HA := Bx.mk hTab
  have HG := Bx.mk hg
  have HM := Bx.mk hN
  clear hT hv hTab hg hN
  go_enter Tryd.func42, Tryd.ntmps42
  go_wp2
  go_loopw [1] (fun v wr => TkRel w b T bs ps v wr) (fun v _ => lenV v)
  case atStart => exact H0.out
  case round =>
    clear H0
    obtain ⟨k, hk, hv, ws, rest, hb, hst, hgr⟩ := hrel
    obtain ⟨a, cap, rfl, hcap, hcells⟩ := hv
    obtain ⟨rem, hrem⟩ : ∃ rem, ps.drop k = rem := ⟨_, rfl⟩
    rw [hrem] at hcap hcells
    rw [hrem]
    by_cases hz : 0 < rem.length
    · obtain ⟨c, o, hne, rfl, hcell⟩ := hcells hz
      clear hcells
      obtain ⟨b0, hb0⟩ : ∃ b0, bs ++ ps.take k = b0 := ⟨_, rfl⟩
      rw [hb0] at hb hst
      obtain ⟨t, ht⟩ : ∃ t, b0.length = t := ⟨_, rfl⟩
      rw [ht] at hb
      have hlen : rem.length = ps.length - k := by rw [← hrem, List.length_drop]
      have htl : t = bs.length + k := by rw [← ht, ← hb0]; simp; omega
      have h8 := hst.w8
      have h64 := hst.r64
      have ct : wr.cell? ⟨b, 72, none⟩ = some (.int .u64 (t : Int)) := by rw [cell_of_row _ _ _ _ _ _ hb]; exact stC_told ws rest t h8 h64
      obtain ⟨h, hh⟩ : ∃ h, t % 64 = h := ⟨_, rfl⟩
      have hh64 : h < 64 := by omega
      have eh : (t : Int) % 64 = (h : Int) := by omega
      obtain ⟨n, hn⟩ : ∃ n, n = min rem.length (64 - h) := ⟨_, rfl⟩
      obtain ⟨L, hL⟩ : ∃ L, L = rem.length := ⟨_, rfl⟩
      rw [← hL] at hn hcap hz ⊢
      obtain ⟨v1, hv1, hbv, hl1⟩ := sl_bytes wr b c o L cap n rem hL hcap (by omega) hne hcell
      have hsl := fun W => sl64 W b 8 h (h : Int) rfl hh64
      have H8 := Bx.mk h8
      have H64 := Bx.mk h64
      have HB := Bx.mk hb
      have HL := Bx.mk hL
      have HN := Bx.mk hn
      have HC := Bx.mk hcell
      have HX := Bx.mk (And.intro hst (And.intro hgr (And.intro hbv (And.intro hl1 (And.intro htl (And.intro hh (And.intro hrem (And.intro hb0 (And.intro ht hlen)))))))))
      have hz1 : (0 : Int) < (L : Int) := by omega
      have ht1 : (t : Int) ≤ 2305843009213693952 := by have := HM.out; omega
      have hn1 : n ≤ 64 := by omega
      have hhn : h + n ≤ 64 := by omega
      clear h8 h64 hb hL hn hcell hst hgr hbv hl1 htl hh hrem hb0 ht hlen hcap
      by_cases hf : h + n = 64
      · have hf1 : ((h : Int) + (n : Int) == 64) = true := by simp; omega
        go_wp2_with (refine wpList_copy_st rfl _ _ rfl b h n c o L cap _ T ws rest rem t (by rfl) (by rfl) HL.out HB.out H8.out H64.out hh64 HN.out HC.out ?_; intro w2 h2 g2; obtain ⟨re, hre⟩ : ∃ re, fillR rest h (rem.take n) = re := ⟨_, rfl⟩; have HR := Bx.mk hre; rw [hre] at h2; clear hre; have H2 := Bx.mk h2; have G2 := Bx.mk g2; clear h2 g2)
        have HRL : Bx (re.length = 64) := Bx.mk (by rw [← HR.out, fillR_length _ _ _ (by have := H64.out; have := HL.out; rw [List.length_take]; omega)]; exact H64.out)
        have HTB : Bx (Tab w2) := Bx.mk (fun i hi => (kb_trans HX.out.2.1 G2.out).cell (HA.out i hi) (by simpa using HG.out))
        obtain ⟨l0, hl0⟩ : ∃ l0, (if t < 64 then hTab else ws) = l0 := ⟨_, rfl⟩
        have HL0 : Bx (hs (b0.length / 64) b0 = l0) := Bx.mk (by rw [← hl0, ← HX.out.2.2.2.2.2.2.2.2.1]; exact HX.out.1.now.symm)
        have HL8 : Bx (l0.length = 8) := Bx.mk (by rw [← HL0.out]; exact hs_length _ _)
        have hbl : b < w2.heap.size := (Array.getElem?_eq_some_iff.1 H2.out).1
        have HNow : Bx (∀ W : World, W.heap = w2.heap → Calls Tryd.prog 53 #[.pointer (some ⟨b, 0, none⟩)] W fun e w' => e = .returned (.agg (u32s l0)) ∧ Below W.heap.size W w') :=
          Bx.mk (fun W e => by rw [← hl0]; exact now_any b T ws re t W (by rw [e]; exact H2.out) H8.out HRL.out (by have := HM.out; have := HX.out.2.2.2.2.1; omega))
        clear hl0
        obtain ⟨m, hm⟩ : ∃ m, mix l0 re = m := ⟨_, rfl⟩
        have HMX := Bx.mk hm
        have HM8 : Bx (m.length = 8) := Bx.mk (by rw [← hm, mix_length]; exact HL8.out)
        have HMix : Bx (∀ W W' : World, Below W.heap.size W W' → W.heap = w2.heap → Calls Tryd.prog 52 #[.agg (u32s l0), .agg (u8s re)] W' fun e w' => e = .returned (.agg (u32s m)) ∧ Below W'.heap.size W' w') :=
          Bx.mk (fun W W' hb e => by
            rw [← hm]
            have h0 : 0 < w2.heap.size := World.block_lt_of_cell? _ _ (HTB.out 0 (by omega))
            refine mixed_any l0 re W' HL8.out HRL.out (fun i hi => ?_) (Nat.lt_of_lt_of_le h0 (by rw [← e]; exact hb.size))
            rw [World.cell?_of_block (w := w2) (below_heap hb e _ h0)]
            exact HTB.out i hi)
        clear hm
        have HU := Bx.mk Tryd.underlying37
        have hu := Tryd.underlying37
        have hi : (Tryd.prog.info? 37).map (·.size) = some (u8s re).toList.length := by rw [Array.length_toList, u8s_size, HRL.out]; kernel_rfl
        have hu2 := Tryd.underlying30
        have hi2 : (Tryd.prog.info? 30).map (·.size) = some (u32s m).size := by rw [u32s_size, HM8.out]; kernel_rfl
        have hl2 : (u32s m).size = 8 := by rw [u32s_size, HM8.out]
        have ho2 := one_u32s m
        go_region_held3 (fun w' => w'.rangeAt b 8 (u8s re).toList ∧ w'.there b 0 8)
          (first | exact sk H2.out H8.out HRL.out rfl | exact sk H2.out H8.out HRL.out (below_heap hb3 rfl _ hbl) | exact sk H2.out H8.out HRL.out ((hb4.block _ (Nat.lt_of_lt_of_le hbl hb3.size)).trans (below_heap hb3 rfl _ hbl)) | exact sk_set (by simpa using hl2) (sk H2.out H8.out HRL.out ((hb4.block _ (Nat.lt_of_lt_of_le hbl hb3.size)).trans (below_heap hb3 rfl _ hbl))))
          (first | (go_at_call 53; refine (HNow.out _ (by rfl)).mono ?_; rintro e w3 ⟨rfl, hb3⟩) | (go_at_call 52; refine (HMix.out _ _ hb3 (by rfl)).mono ?_; rintro e w4 ⟨rfl, hb4⟩; have hst := st8 (P := Tryd.prog) w4 b m HM8.out (sk H2.out H8.out HRL.out ((hb4.block _ (Nat.lt_of_lt_of_le hbl hb3.size)).trans (below_heap hb3 rfl _ hbl))).2))
        have hf2 := Bx.mk hf
        clear hf
        have H5 : Bx ((w4.setCells b 0 (u32s m).toList).heap[b]? = some (.cells (stC m re t) T (0, 0))) := Bx.mk (by
          rw [heap_setCells_same b T _ 0 w4 (stC ws re t) ((hb4.block _ (Nat.lt_of_lt_of_le hbl hb3.size)).trans ((below_heap hb3 rfl _ hbl).trans H2.out)), stC_spl _ _ _ _ H8.out HM8.out])
        have G5 : Bx (w2.grownBy (w4.setCells b 0 (u32s m).toList) (some b)) := Bx.mk (kb_trans (kb_trans (kb_trans (kb_drewN _ w2 1) (kb_below _ hb3)) (kb_below _ hb4)) (kb_setCells _ _ _))
        clear hst hb3 hb4
        generalize w4.setCells b 0 (u32s m).toList = w5 at *
        have ct5 : w5.cell? ⟨b, 72, none⟩ = some (.int .u64 (t : Int)) := (by rw [cell_of_row _ _ _ _ _ _ H5.out]; exact stC_told m re t HM8.out HRL.out)
        have f5 : w5.frozen? ⟨b, 72, none⟩ = false := frozen_of_row _ _ _ _ _ H5.out
        clear hi hi2 hl2 ho2 HNow HMix
        go_wp2
        go_roundw
        case rel =>
          obtain ⟨x1, x2, x3, x4, x5, x6, x7, x8, x9, x10⟩ := HX.out
          have hnr : n ≤ rem.length := by have := HL.out; have := HN.out; omega
          refine tk_next (ws' := m) (rest' := re) hk hnr x7 x8 x9 x3 x2 (kb_trans G2.out (kb_trans G5.out (kb_setCell _ _ _))) ?_ ?_
          · rw [heap_setCell_same _ _ _ _ _ _ H5.out, ← Int.natCast_add, stC_set _ _ _ _ HM8.out HRL.out]
          · have hp := x1.full (q := rem.take n) (by have := hf2.out; rw [x9, x6, List.length_take, Nat.min_eq_left hnr]; omega)
            rw [HL0.out] at hp
            rw [x9, x6, HR.out, HMX.out] at hp
            exact hp
        case measure =>
          have := HX.out.2.2.2.1
          have := HN.out
          simp only [lenV] at *
          omega
      · have hf1 : ((h : Int) + (n : Int) == 64) = false := by simp; omega
        go_wp2_with (refine wpList_copy_st rfl _ _ rfl b h n c o L cap _ T ws rest rem t (by rfl) (by rfl) HL.out HB.out H8.out H64.out hh64 HN.out HC.out ?_; intro w2 h2 g2; obtain ⟨re, hre⟩ : ∃ re, fillR rest h (rem.take n) = re := ⟨_, rfl⟩; have HR := Bx.mk hre; rw [hre] at h2; clear hre; have H2 := Bx.mk h2; have G2 := Bx.mk g2; have HRL : Bx (re.length = 64) := Bx.mk (by rw [← HR.out, fillR_length _ _ _ (by have := H64.out; have := HL.out; rw [List.length_take]; omega)]; exact H64.out); have ct2 : w2.cell? ⟨b, 72, none⟩ = some (.int .u64 (t : Int)) := (by rw [cell_of_row _ _ _ _ _ _ h2]; exact stC_told ws re t H8.out HRL.out); have f2 : w2.frozen? ⟨b, 72, none⟩ = false := frozen_of_row _ _ _ _ _ h2; clear h2 g2)
        go_roundw
        case rel =>
          obtain ⟨x1, x2, x3, x4, x5, x6, x7, x8, x9, x10⟩ := HX.out
          have hnr : n ≤ rem.length := by have := HL.out; have := HN.out; omega
          refine tk_next (ws' := ws) (rest' := re) hk hnr x7 x8 x9 x3 x2 (kb_trans G2.out (kb_setCell _ _ _)) ?_ ?_
          · rw [heap_setCell_same _ _ _ _ _ _ H2.out, ← Int.natCast_add, stC_set _ _ _ _ H8.out HRL.out]
          · have hp := x1.part (q := rem.take n) (by rw [x9, x6, List.length_take, Nat.min_eq_left hnr]; omega)
            rw [x9, x6, HR.out] at hp
            exact hp
        case measure =>
          have := HX.out.2.2.2.1
          have := HN.out
          simp only [lenV] at *
          omega
    · have e0 : rem.length = 0 := by omega
      have HW : Bx (Took w b T (bs ++ ps) wr) := Bx.mk (by
        have e1 : ps.take k = ps := List.take_of_length_le (by have := List.length_drop (l := ps) (i := k); rw [hrem] at this; omega)
        rw [e1] at hb hst
        exact ⟨ws, rest, hb, hst, hgr⟩)
      clear hb hst hgr hcells hrem
      rw [e0]
      clear e0 hz hcap
      go_wp2
      go_end0
      exact ⟨rfl, HW.out⟩
end Go.Proofs.YtkfgpnigeknhmaaDoor
