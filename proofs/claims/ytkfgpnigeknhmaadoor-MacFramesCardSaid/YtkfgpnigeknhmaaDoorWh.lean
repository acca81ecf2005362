/-
  The walks of a running digest's methods.
-/
import Derived.Test.YtkfgpnigeknhmaaDoorWg
namespace Go.Proofs.YtkfgpnigeknhmaaDoor
open Go Go.RowKit
theorem zero73 : stC (List.replicate 8 0) (List.replicate 64 0) 0 = #[.int .u32 0, .int .u32 0, .int .u32 0, .int .u32 0, .int .u32 0, .int .u32 0, .int .u32 0, .int .u32 0, .int .u8 0, .int .u8 0, .int .u8 0, .int .u8 0, .int .u8 0, .int .u8 0, .int .u8 0, .int .u8 0, .int .u8 0, .int .u8 0, .int .u8 0, .int .u8 0, .int .u8 0, .int .u8 0, .int .u8 0, .int .u8 0, .int .u8 0, .int .u8 0, .int .u8 0, .int .u8 0, .int .u8 0, .int .u8 0, .int .u8 0, .int .u8 0, .int .u8 0, .int .u8 0, .int .u8 0, .int .u8 0, .int .u8 0, .int .u8 0, .int .u8 0, .int .u8 0, .int .u8 0, .int .u8 0, .int .u8 0, .int .u8 0, .int .u8 0, .int .u8 0, .int .u8 0, .int .u8 0, .int .u8 0, .int .u8 0, .int .u8 0, .int .u8 0, .int .u8 0, .int .u8 0, .int .u8 0, .int .u8 0, .int .u8 0, .int .u8 0, .int .u8 0, .int .u8 0, .int .u8 0, .int .u8 0, .int .u8 0, .int .u8 0, .int .u8 0, .int .u8 0, .int .u8 0, .int .u8 0, .int .u8 0, .int .u8 0, .int .u8 0, .int .u8 0, .int .u64 0] := by kernel_rfl
/-- Parts behind a slice of slices, none of them in block b. -/
def PartsAt (w : World) (b : Nat) (v : Value) (pss : List (List UInt8)) : Prop :=
  ∃ a cap, v = .slice a pss.length cap ∧ (0 < pss.length → ∃ p o, p ≠ b ∧ a = some ⟨p, o, none⟩ ∧ ∀ j, j < pss.length → ∃ x, w.cell? ⟨p, o + j, none⟩ = some x ∧ BytesAt w b x (pss.getD j []))
theorem PartsAt.later {w w1 : World} {b : Nat} {v : Value} {pss : List (List UInt8)} (h : PartsAt w b v pss) (hk : w.grownBy w1 (some b)) : PartsAt w1 b v pss := by
  obtain ⟨a, cap, hv, hr⟩ := h
  refine ⟨a, cap, hv, fun hp => ?_⟩
  obtain ⟨p, o, hne, ha, hcell⟩ := hr hp
  refine ⟨p, o, hne, ha, fun j hj => ?_⟩
  obtain ⟨x, hx, hb⟩ := hcell j hj
  exact ⟨x, hk.cell hx (by simpa using hne), hb.later hk⟩
theorem Took.trans {w w1 w2 : World} {b : Nat} {T : TypeId} {bs : List UInt8} (h : w.grownBy w1 (some b)) (k : Took w1 b T bs w2) : Took w b T bs w2 := by
  obtain ⟨ws, rest, h1, h2, h3⟩ := k
  exact ⟨ws, rest, h1, h2, kb_trans h h3⟩
theorem Took.self {w w1 : World} {b : Nat} {T : TypeId} {bs : List UInt8} (k : Took w b T bs w1) : Took w1 b T bs w1 := by
  obtain ⟨ws, rest, h1, h2, _⟩ := k
  exact ⟨ws, rest, h1, h2, kb_refl _ _⟩
theorem Took.kept {w w1 : World} {b : Nat} {T : TypeId} {bs : List UInt8} (k : Took w b T bs w1) : w.grownBy w1 (some b) := by
  obtain ⟨_, _, _, _, h⟩ := k
  exact h
theorem flat_succ (pss : List (List UInt8)) (k : Nat) (h : k < pss.length) : (pss.take (k + 1)).flatten = (pss.take k).flatten ++ pss.getD k [] := by
  rw [List.take_succ_eq_append_getElem h, List.flatten_append]
  simp [h]
theorem flat_le (pss : List (List UInt8)) (k : Nat) : (pss.take k).flatten.length ≤ pss.flatten.length := by
  have e : pss.flatten = (pss.take k).flatten ++ (pss.drop k).flatten := by rw [← List.flatten_append, List.take_append_drop]
  rw [e, List.length_append]
  omega
set_option maxRecDepth 100000 in
set_option maxHeartbeats 400000 in
theorem add_any (b : Nat) (bs : List UInt8) (pss : List (List UInt8)) (v : Value) (w : World) (hT : Took w b 42 bs w) (hv : PartsAt w b v pss) (hl : pss.length < 281474976710656) (hN : bs.length + pss.flatten.length < 1152921504606846976) (hTab : Tab w) (hg : 0 ≠ b) :
    Calls Tryd.prog 16 #[.pointer (some ⟨b, 0, none⟩), v] w fun e w' => e = .returned (.pointer (some ⟨b, 0, none⟩)) ∧ Took w b 42 (bs ++ pss.flatten) w' := by
  have HP := Bx.mk hv
  obtain ⟨a, cap, rfl, _⟩ := hv
  have H0 := Bx.mk hT
  have HM := Bx.mk hN
  have HA := Bx.mk hTab
  have hl1 : (pss.length : Int) < 281474976710656 := by omega
  obtain ⟨n, hn⟩ : ∃ n, pss.length = n := ⟨_, rfl⟩
  rw [hn] at hl1 ⊢
  rw [hn] at HP
  have HN := Bx.mk hn
  have HG := Bx.mk hg
  clear hT hN hTab hl hn hg
  go_enter Tryd.func16, Tryd.ntmps16
  go_wp2
  go_loopw [11] (fun i wr => ∃ k : Nat, k ≤ n ∧ i = .int .i64 k ∧ Took w b 42 (bs ++ (pss.take k).flatten) wr) (fun i _ => n - (intOf i).toNat)
  case atStart => exact ⟨0, Nat.zero_le _, rfl, by simpa using H0.out⟩
  case round =>
    clear H0
    obtain ⟨k, hk, rfl, ht⟩ := hrel
    have HT := Bx.mk ht
    clear ht
    by_cases hlt : k < n
    · obtain ⟨a', cap', he, hr⟩ := HP.out.later HT.out.kept
      injection he with he1 he2 he3
      obtain ⟨p, o, hne, ha, hcell⟩ := hr (by rw [HN.out]; omega)
      subst he1
      subst ha
      obtain ⟨x, hx, hxb⟩ := hcell k (by rw [HN.out]; omega)
      clear hcell hr he2 he3
      have HX := Bx.mk hxb
      have hlk : (k : Int) < (n : Int) := by omega
      have HC : Bx (Calls Tryd.prog 42 #[.pointer (some ⟨b, 0, none⟩), x] wr fun e w' => e = .returned (.tuple #[]) ∧ Took wr b 42 (bs ++ (pss.take k).flatten ++ pss.getD k []) w') :=
        Bx.mk (take_any b 42 _ _ x wr HT.out.self HX.out (by
          have h1 := flat_succ pss k (by rw [HN.out]; omega)
          have h2 := flat_le pss (k + 1)
          rw [h1, List.length_append] at h2
          have h3 := HM.out
          rw [List.length_append]
          omega) (fun i hi => HT.out.kept.cell (HA.out i hi) (by simpa using HG.out)) HG.out)
      have HE : Bx (bs ++ (pss.take k).flatten ++ pss.getD k [] = bs ++ (pss.take (k + 1)).flatten) := Bx.mk (by
        rw [flat_succ pss k (by rw [HN.out]; omega), List.append_assoc])
      clear hxb hne
      go_wp2_with fail
      refine HC.out.mono ?_
      rintro e w2 ⟨rfl, h2⟩
      rw [HE.out] at h2
      have H2 : Bx (Took w b 42 (bs ++ (pss.take (k + 1)).flatten) w2) := Bx.mk (Took.trans HT.out.kept h2)
      clear h2 HC HE
      go_wp2
      go_roundw
      case rel => exact ⟨k + 1, by omega, by go_num, H2.out⟩
      case measure => simp [intOf]; omega
    · have HE : Bx (Took w b 42 (bs ++ pss.flatten) wr) := Bx.mk (by have h := HT.out; rw [List.take_of_length_le (by rw [HN.out]; omega)] at h; exact h)
      clear HT
      go_wp2
      go_ret
      exact ⟨rfl, HE.out⟩
theorem add_nil (v : Value) (w : World) : Calls Tryd.prog 16 #[.pointer none, v] w fun e w' => e = .returned (.pointer none) ∧ w = w' := by
  go_enter Tryd.func16, Tryd.ntmps16
  go_wp2
  go_ret
  exact ⟨rfl, rfl⟩
theorem len_nil (w : World) : Calls Tryd.prog 18 #[.pointer none] w fun e w' => e = .returned (.int .i64 0) ∧ w = w' := by
  go_enter Tryd.func18, Tryd.ntmps18
  go_wp2
  go_ret
  exact ⟨rfl, rfl⟩
theorem copy_nil (w : World) : Calls Tryd.prog 19 #[.pointer none] w fun e w' => e = .returned (.pointer none) ∧ w = w' := by
  go_enter Tryd.func19, Tryd.ntmps19
  go_wp2
  go_ret
  exact ⟨rfl, rfl⟩
theorem len_any (b : Nat) (bs : List UInt8) (w : World) (hT : Took w b 42 bs w) (hN : bs.length < 1152921504606846976) : Calls Tryd.prog 18 #[.pointer (some ⟨b, 0, none⟩)] w fun e w' => e = .returned (.int .i64 (bs.length : Int)) ∧ w = w' := by
  obtain ⟨ws, rest, h1, h2, _⟩ := hT
  have ct : w.cell? ⟨b, 72, none⟩ = some (.int .u64 (bs.length : Int)) := by rw [cell_of_row _ _ _ _ _ _ h1]; exact stC_told ws rest _ h2.w8 h2.r64
  have hn : (bs.length : Int) < 1152921504606846976 := by omega
  clear h1 h2 hN
  go_enter Tryd.func18, Tryd.ntmps18
  go_wp2
  go_ret
  exact ⟨rfl, rfl⟩
theorem sha_length (bs : List UInt8) : (sha bs).length = 32 := by
  unfold sha
  rw [← outF_all _ (hs_length _ _), outF_length]
/-- The last steps of a function whose result is an array of 32 bytes: it is stored into the result's block. -/
theorem res32 {w wr : World} {B : Nat} {out : List UInt8} (hq : wr.heap[B]? = some (.cells (u8s (List.replicate 32 0)) 26 (0, 0))) (ho : out.length = 32) (hb : Below w.heap.size w wr) (hB : w.heap.size ≤ B) :
    (Tryd.prog.info? 26).map (·.size) = some (u8s out).size ∧ wr.there B 0 (u8s out).size ∧ (wr.setCells B 0 (u8s out).toList).heap[B]? = some (.cells (u8s out) 26 (0, 0)) ∧ Below w.heap.size w (wr.setCells B 0 (u8s out).toList) :=
  ⟨by rw [u8s_size, ho]; kernel_rfl, there_row hq 0 _ (by rw [u8s_size, u8s_size, ho]; simp), heap_setCells_all hq (by rw [u8s_size, u8s_size, ho]; simp), below_setCells hB _ _ _ _ hb⟩
set_option maxRecDepth 100000 in
theorem sum_nil (w : World) (hTab : Tab w) (hg : 0 < w.heap.size) : Calls Tryd.prog 17 #[.pointer none] w fun e w' => e = .returned (.agg (u8s (sha []))) ∧ Below w.heap.size w w' := by
  have hzv : ∀ W : World, (zeroValue 40).run Tryd.prog W = .ok (.agg (stC (List.replicate 8 0) (List.replicate 64 0) 0)) W := fun W => by rw [zero73]; kernel_rfl
  have HC : Bx (Calls Tryd.prog 43 #[.agg (stC (List.replicate 8 0) (List.replicate 64 0) 0)] (w.alloc (.cells #[.int .u8 0, .int .u8 0, .int .u8 0, .int .u8 0, .int .u8 0, .int .u8 0, .int .u8 0, .int .u8 0, .int .u8 0, .int .u8 0, .int .u8 0, .int .u8 0, .int .u8 0, .int .u8 0, .int .u8 0, .int .u8 0, .int .u8 0, .int .u8 0, .int .u8 0, .int .u8 0, .int .u8 0, .int .u8 0, .int .u8 0, .int .u8 0, .int .u8 0, .int .u8 0, .int .u8 0, .int .u8 0, .int .u8 0, .int .u8 0, .int .u8 0, .int .u8 0] 26)) fun e w' => e = .returned (.agg (u8s (sha []))) ∧ Below (w.alloc (.cells #[.int .u8 0, .int .u8 0, .int .u8 0, .int .u8 0, .int .u8 0, .int .u8 0, .int .u8 0, .int .u8 0, .int .u8 0, .int .u8 0, .int .u8 0, .int .u8 0, .int .u8 0, .int .u8 0, .int .u8 0, .int .u8 0, .int .u8 0, .int .u8 0, .int .u8 0, .int .u8 0, .int .u8 0, .int .u8 0, .int .u8 0, .int .u8 0, .int .u8 0, .int .u8 0, .int .u8 0, .int .u8 0, .int .u8 0, .int .u8 0, .int .u8 0, .int .u8 0] 26)).heap.size (w.alloc (.cells #[.int .u8 0, .int .u8 0, .int .u8 0, .int .u8 0, .int .u8 0, .int .u8 0, .int .u8 0, .int .u8 0, .int .u8 0, .int .u8 0, .int .u8 0, .int .u8 0, .int .u8 0, .int .u8 0, .int .u8 0, .int .u8 0, .int .u8 0, .int .u8 0, .int .u8 0, .int .u8 0, .int .u8 0, .int .u8 0, .int .u8 0, .int .u8 0, .int .u8 0, .int .u8 0, .int .u8 0, .int .u8 0, .int .u8 0, .int .u8 0, .int .u8 0, .int .u8 0] 26)) w') := Bx.mk (
    end_any [] _ _ 0 _ StIs.zero rfl (by omega) (hTab.later ((Below.refl _ _).alloc (Nat.le_refl _) _) hg) (by simp))
  generalize stC (List.replicate 8 0) (List.replicate 64 0) 0 = cs at *
  have HL := Bx.mk (sha_length [])
  clear hTab hg
  generalize sha [] = out at *
  go_enter Tryd.func17, Tryd.ntmps17
  go_wp2_with fail
  refine HC.out.mono ?_
  rintro e w1 ⟨rfl, hb⟩
  have HR : Bx (_ ∧ _ ∧ _ ∧ _) := Bx.mk (res32 (w := w) (wr := w1) (B := w.heap.size) (out := out) (by rw [hb.block _ (by simp), hnew _ _ _ rfl, ← zero32]) HL.out (((Below.refl _ _).alloc (Nat.le_refl _) _).trans (hb.mono (by simp))) (Nat.le_refl _))
  clear HC hb
  go_wp2_with (refine wpList_store_mid rfl 26 _ _ rfl w.heap.size 0 _ (by rfl) (by rfl) HR.out.2.1 HR.out.1 (one_u8s _) ?_)
  refine bodyPost_ret (results_cell_row rfl _ _ w.heap.size _ (u8s out) _ _ rfl HR.out.2.2.1 Tryd.underlying26 rfl HR.out.1) rfl ?_
  exact ⟨rfl, HR.out.2.2.2⟩
set_option maxRecDepth 100000 in
theorem sum_any (b : Nat) (bs : List UInt8) (w : World) (hT : Took w b 42 bs w) (hN : bs.length < 1152921504606846976) (hTab : Tab w) (hg : 0 < w.heap.size) :
    Calls Tryd.prog 17 #[.pointer (some ⟨b, 0, none⟩)] w fun e w' => e = .returned (.agg (u8s (sha bs))) ∧ Below w.heap.size w w' := by
  obtain ⟨ws, rest, h1, h2, _⟩ := hT
  have hbl : b < w.heap.size := (Array.getElem?_eq_some_iff.1 h1).1
  have HC : Bx (Calls Tryd.prog 43 #[.agg (stC ws rest bs.length)] (w.alloc (.cells #[.int .u8 0, .int .u8 0, .int .u8 0, .int .u8 0, .int .u8 0, .int .u8 0, .int .u8 0, .int .u8 0, .int .u8 0, .int .u8 0, .int .u8 0, .int .u8 0, .int .u8 0, .int .u8 0, .int .u8 0, .int .u8 0, .int .u8 0, .int .u8 0, .int .u8 0, .int .u8 0, .int .u8 0, .int .u8 0, .int .u8 0, .int .u8 0, .int .u8 0, .int .u8 0, .int .u8 0, .int .u8 0, .int .u8 0, .int .u8 0, .int .u8 0, .int .u8 0] 26)) fun e w' => e = .returned (.agg (u8s (sha bs))) ∧ Below (w.alloc (.cells #[.int .u8 0, .int .u8 0, .int .u8 0, .int .u8 0, .int .u8 0, .int .u8 0, .int .u8 0, .int .u8 0, .int .u8 0, .int .u8 0, .int .u8 0, .int .u8 0, .int .u8 0, .int .u8 0, .int .u8 0, .int .u8 0, .int .u8 0, .int .u8 0, .int .u8 0, .int .u8 0, .int .u8 0, .int .u8 0, .int .u8 0, .int .u8 0, .int .u8 0, .int .u8 0, .int .u8 0, .int .u8 0, .int .u8 0, .int .u8 0, .int .u8 0, .int .u8 0] 26)).heap.size (w.alloc (.cells #[.int .u8 0, .int .u8 0, .int .u8 0, .int .u8 0, .int .u8 0, .int .u8 0, .int .u8 0, .int .u8 0, .int .u8 0, .int .u8 0, .int .u8 0, .int .u8 0, .int .u8 0, .int .u8 0, .int .u8 0, .int .u8 0, .int .u8 0, .int .u8 0, .int .u8 0, .int .u8 0, .int .u8 0, .int .u8 0, .int .u8 0, .int .u8 0, .int .u8 0, .int .u8 0, .int .u8 0, .int .u8 0, .int .u8 0, .int .u8 0, .int .u8 0, .int .u8 0] 26)) w') := Bx.mk (
    end_any bs _ _ _ _ h2 rfl hN (hTab.later ((Below.refl _ _).alloc (Nat.le_refl _) _) hg) (by simp))
  have H1 : Bx ((w.alloc (.cells #[.int .u8 0, .int .u8 0, .int .u8 0, .int .u8 0, .int .u8 0, .int .u8 0, .int .u8 0, .int .u8 0, .int .u8 0, .int .u8 0, .int .u8 0, .int .u8 0, .int .u8 0, .int .u8 0, .int .u8 0, .int .u8 0, .int .u8 0, .int .u8 0, .int .u8 0, .int .u8 0, .int .u8 0, .int .u8 0, .int .u8 0, .int .u8 0, .int .u8 0, .int .u8 0, .int .u8 0, .int .u8 0, .int .u8 0, .int .u8 0, .int .u8 0, .int .u8 0] 26)).heap[b]? = some (.cells (stC ws rest bs.length) 42 (0, 0))) := Bx.mk (by rw [hold _ _ _ hbl]; exact h1)
  have HI : Bx ((Tryd.prog.info? 40).map (·.size) = some (stC ws rest bs.length).size) := Bx.mk (by rw [stC_size _ _ _ h2.w8 h2.r64]; kernel_rfl)
  have HL := Bx.mk (sha_length bs)
  clear h1 h2 hbl hTab hg hN
  generalize sha bs = out at *
  generalize stC ws rest bs.length = cs at *
  go_enter Tryd.func17, Tryd.ntmps17
  go_wp2_with (refine wpList_load_row rfl 40 _ rfl b (by rfl) _ _ _ _ H1.out Tryd.underlying40 rfl HI.out ?_)
  refine HC.out.mono ?_
  rintro e w1 ⟨rfl, hb⟩
  have HR : Bx (_ ∧ _ ∧ _ ∧ _) := Bx.mk (res32 (w := w) (wr := w1) (B := w.heap.size) (out := out) (by rw [hb.block _ (by simp), hnew _ _ _ rfl, ← zero32]) HL.out (((Below.refl _ _).alloc (Nat.le_refl _) _).trans (hb.mono (by simp))) (Nat.le_refl _))
  clear HC hb H1
  go_wp2_with (refine wpList_store_mid rfl 26 _ _ rfl w.heap.size 0 _ (by rfl) (by rfl) HR.out.2.1 HR.out.1 (one_u8s _) ?_)
  refine bodyPost_ret (results_cell_row rfl _ _ w.heap.size _ (u8s out) _ _ rfl HR.out.2.2.1 Tryd.underlying26 rfl HR.out.1) rfl ?_
  exact ⟨rfl, HR.out.2.2.2⟩
end Go.Proofs.YtkfgpnigeknhmaaDoor
