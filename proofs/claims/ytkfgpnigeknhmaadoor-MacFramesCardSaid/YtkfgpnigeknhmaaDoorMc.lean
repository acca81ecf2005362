/-
  The walks of filled and Tag.
-/
import Derived.Test.YtkfgpnigeknhmaaDoorMb
namespace Go.Proofs.YtkfgpnigeknhmaaDoor
open Go Go.RowKit
/-- 'copy' into a whole block of bytes. -/
theorem wpList_copy_row {w : World} {ops : Array Oper} {rst : List Oper} {o : Oper} {a : Act} {Q : Exit → Act → World → Prop} (hgd : o.guard = none) (d s : Operand)
    (ho : o.op = .call { callee := .builtin .copy, args := #[d, s], argTypes := #[23, 23] }) (b L dcap : Nat) (T : TypeId) (cur ps : List UInt8) (v : Value)
    (hd : a.eval d = .slice (some ⟨b, 0, none⟩) L dcap) (hs : a.eval s = v) (hv : Bytes w v ps) (hg : w.heap[b]? = some (.cells (u8s cur) T (0, 0))) (hL : cur.length = L) (n : Nat) (hn : n = min ps.length L)
    (k : ∀ w2 : World, w2.heap[b]? = some (.cells (u8s (ps.take n ++ cur.drop n)) T (0, 0)) → w.grownBy w2 (some b) → wpList Tryd.prog ops Q rst (a.put o.dst (.int .i64 (n : Int))) w2) : wpList Tryd.prog ops Q (o :: rst) a w := by
  obtain ⟨ad, cap, rfl, hc, hz, hr⟩ := hv
  by_cases h0 : n = 0
  · refine wpList_copy_nothing hgd d s _ _ ho 5 Tryd.underlying23 (by kernel_rfl) _ _ _ _ _ _ hd hs (by rw [show Nat.min ps.length L = min ps.length L from rfl, ← hn]; exact h0) ?_
    have h := k w (by rw [h0]; simpa using hg) (kb_refl _ _)
    rw [h0] at h
    exact h
  · obtain ⟨c, off, rfl, hcell⟩ := hr (by omega)
    have lq : (ps.take n).length = n := by rw [List.length_take]; omega
    have lc : (u8s (ps.take n)).toList.length = n := by rw [Array.length_toList, u8s_size, lq]
    refine wpList_copy_own hgd d s _ _ ho 5 Tryd.underlying23 (by kernel_rfl) b 0 L dcap ⟨c, off, none⟩ ps.length cap hd hs _ T hg (u8s (ps.take n)).toList (by rw [lc, hn]) ?_ ?_ ?_ ?_
    · intro j u hu
      have hj : j < n := by have := (List.getElem?_eq_some_iff.1 hu).1; omega
      rw [Array.getElem?_toList, u8s_get _ _ (by omega)] at hu
      rw [show (⟨c, off, none⟩ : Addr).add j = ⟨c, off + j, none⟩ by simp [Addr.add], hcell j (by omega), ← hu]
      simp [hj]
    · rw [lc, u8s_size]; omega
    · have := one_u8s (ps.take n)
      intro u hu
      rw [Array.all_eq_true'] at this
      exact this u (by simpa using hu)
    · rw [lc]
      have e : (List.take 0 (u8s cur).toList ++ ((u8s (ps.take n)).toList ++ List.drop (0 + n) (u8s cur).toList)).toArray = u8s (ps.take n ++ cur.drop n) := by
        simp [u8s]
      rw [e]
      refine k _ ?_ ?_
      · show (w.heap.modify b _)[b]? = _; rw [Array.getElem?_modify, if_pos rfl, hg]; rfl
      · exact ⟨rfl, rfl, rfl, by simp [World.setRow], fun i _ hne => setRow_other w b i _ (fun e => hne (by rw [e]))⟩
theorem fill_is (k : List UInt8) (n : Nat) (h : n = min k.length 64) (hk : k.length ≤ 64) : k.take n ++ (List.replicate 64 0).drop n = fillK k := by
  have hn : n = k.length := by omega
  rw [hn, List.take_length, List.drop_replicate]
  rfl
theorem zero64 : u8s (List.replicate 64 0) = #[.int .u8 0, .int .u8 0, .int .u8 0, .int .u8 0, .int .u8 0, .int .u8 0, .int .u8 0, .int .u8 0, .int .u8 0, .int .u8 0, .int .u8 0, .int .u8 0, .int .u8 0, .int .u8 0, .int .u8 0, .int .u8 0, .int .u8 0, .int .u8 0, .int .u8 0, .int .u8 0, .int .u8 0, .int .u8 0, .int .u8 0, .int .u8 0, .int .u8 0, .int .u8 0, .int .u8 0, .int .u8 0, .int .u8 0, .int .u8 0, .int .u8 0, .int .u8 0, .int .u8 0, .int .u8 0, .int .u8 0, .int .u8 0, .int .u8 0, .int .u8 0, .int .u8 0, .int .u8 0, .int .u8 0, .int .u8 0, .int .u8 0, .int .u8 0, .int .u8 0, .int .u8 0, .int .u8 0, .int .u8 0, .int .u8 0, .int .u8 0, .int .u8 0, .int .u8 0, .int .u8 0, .int .u8 0, .int .u8 0, .int .u8 0, .int .u8 0, .int .u8 0, .int .u8 0, .int .u8 0, .int .u8 0, .int .u8 0, .int .u8 0, .int .u8 0] := by kernel_rfl
/-- The two arrays of filled. -/
structure Fl (w : World) (W : World) : Prop where
  below : Below w.heap.size w W
  size : w.heap.size + 2 ≤ W.heap.size
  res : W.heap[w.heap.size]? = some (.cells (u8s (List.replicate 64 0)) 37 (0, 0))
  out : W.heap[w.heap.size + 1]? = some (.cells (u8s (List.replicate 64 0)) 37 (0, 0))
theorem Fl.later {w W W1 : World} (h : Fl w W) (hb : Below W.heap.size W W1) : Fl w W1 :=
  ⟨h.below.trans (hb.mono h.below.size), Nat.le_trans h.size hb.size, by rw [hb.block _ (by have := h.size; omega)]; exact h.res, by rw [hb.block _ (by have := h.size; omega)]; exact h.out⟩
theorem Fl.start (w : World) (z : Array Value) (hz : u8s (List.replicate 64 0) = z) : Fl w ((w.alloc (.cells z 37)).alloc (.cells z 37)) := by
  subst hz
  exact ⟨((Below.refl _ _).alloc (Nat.le_refl _) _).alloc (by simp) _, by simp, by rw [hold _ _ _ (by simp), hnew _ _ _ rfl], by rw [hnew _ _ _ (by simp)]⟩
set_option maxRecDepth 100000 in
set_option maxHeartbeats 1000000 in
theorem filled_any (key : List UInt8) (v : Value) (w : World) (hv : Bytes w v key) (hl : key.length ≤ 1000000) (hTab : Tab w) (hg : 0 < w.heap.size) :
    Calls Tryd.prog 46 #[v] w fun e w' => e = .returned (.agg (u8s (keyB key))) ∧ Below w.heap.size w w' := by
  have HV := Bx.mk hv
  have HA := Bx.mk hTab
  obtain ⟨a, cap, rfl, -⟩ := hv
  obtain ⟨n, hn⟩ : ∃ n, key.length = n := ⟨_, rfl⟩
  have HN := Bx.mk hn
  rw [hn] at HV hl ⊢
  have hn1 : (n : Int) ≤ 1000000 := by omega
  clear hn hTab
  obtain ⟨z, hz⟩ : ∃ z, u8s (List.replicate 64 0) = z := ⟨_, rfl⟩
  have hzv : ∀ W : World, (zeroValue 37).run Tryd.prog W = .ok (.agg z) W := fun W => by rw [← hz, zero64]; kernel_rfl
  have HF : Bx (Fl w ((w.alloc (.cells z 37)).alloc (.cells z 37))) := Bx.mk (Fl.start w z hz)
  clear hz
  go_enter Tryd.func46, Tryd.ntmps46
  by_cases hlt : 64 < n
  · have t1 : (64 : Int) < (n : Int) := by omega
    go_upto_region 3 with (fail)
    have HV2 : Bx (Bytes ((w.alloc (.cells z 37)).alloc (.cells z 37)) (.slice a n cap) key) := Bx.mk (HV.out.later HF.out.below)
    generalize (w.alloc (.cells z 37)).alloc (.cells z 37) = w1 at *
    go_wp2_with fail
    refine (dsum_parts [key] _ _ (one_part HV2.out) (by simp) (by rw [List.flatten_singleton, HN.out]; omega) (HA.out.later (HF.out.later (below_a _)).below hg) (Nat.lt_of_lt_of_le hg (HF.out.later (below_a _)).below.size)).mono ?_
    rintro e w2 ⟨rfl, hb2⟩
    have H2 : Bx (Fl w w2) := Bx.mk ((HF.out.later (below_a _)).later hb2)
    clear hb2
    rw [List.flatten_singleton]
    have HSL : Bx ((sha key).length = 32) := Bx.mk (sha_length _)
    have HKs : Bx (fillK (sha key) = keyB key) := Bx.mk (by unfold keyB shortK; rw [if_pos (by rw [HN.out]; exact hlt)])
    generalize sha key = sk at *
    have HI3 : Bx ((Tryd.prog.info? 26).map (·.size) = some (u8s sk).size) := Bx.mk (by rw [u8s_size, HSL.out]; kernel_rfl)
    have HZ3 : Bx ((u8s sk).size = (u8s (List.replicate 32 0)).size) := Bx.mk (by rw [u8s_size, u8s_size, HSL.out]; rfl)
    go_upto_region 5 with (refine wpList_store_var rfl 26 _ _ rfl w2 _ _ rfl (by rfl) (u8s sk) (by rfl) HZ3.out HI3.out (one_u8s _) ?_; intro w3 hb3 hr3 hl3)
    have HX0 : Bx (Fl w w3 ∧ Bytes w3 (.slice (some ⟨w2.heap.size, 0, none⟩) 32 32) sk ∧ sk.length ≤ 64 ∧ fillK sk = keyB key) := Bx.mk ⟨H2.out.later hb3, row_bytes hr3 HSL.out, by rw [HSL.out]; omega, HKs.out⟩
    clear hb3 hr3 hl3 H2 HF HV HV2 HSL HKs HI3 HZ3
    have HX : Bx (Fl w w3 ∧ Bytes w3 (.slice (some ⟨w2.heap.size, 0, none⟩) 32 32) sk ∧ sk.length ≤ 64 ∧ fillK sk = keyB key) := HX0
    clear HX0
    have HI : Bx ((Tryd.prog.info? 37).map (·.size) = some (u8s (keyB key)).size) := Bx.mk (by rw [u8s_size, keyB_length]; kernel_rfl)
    have HZ : Bx ((u8s (keyB key)).size = (u8s (List.replicate 64 0)).size) := Bx.mk (by rw [u8s_size, u8s_size, keyB_length]; rfl)
    generalize hkb : keyB key = kb at *
    have HKB := Bx.mk hkb
    clear hkb
    go_wp2_with (first | (refine wpList_copy_row rfl _ _ rfl (w.heap.size + 1) 64 64 _ (List.replicate 64 0) sk _ (by rfl) (by rfl) HX.out.2.1 HX.out.1.out (by simp) _ rfl ?_; intro w5 hr5 hk5; have H5 : Bx (Below w.heap.size w w5 ∧ w5.heap[w.heap.size + 1]? = some (.cells (u8s kb) 37 (0, 0)) ∧ w5.heap[w.heap.size]? = some (.cells (u8s (List.replicate 64 0)) 37 (0, 0))) := Bx.mk ⟨⟨hk5.os.trans HX.out.1.below.os, hk5.tape.trans HX.out.1.below.tape, hk5.output.trans HX.out.1.below.output, Nat.le_trans HX.out.1.below.size hk5.size, fun i hi => (hk5.block i (by have := HX.out.1.size; omega) (by intro e; injection e with e; omega)).trans (HX.out.1.below.block i hi)⟩, by (rw [← HX.out.2.2.2, ← fill_is _ _ rfl HX.out.2.2.1]; exact hr5), by (rw [hk5.block _ (by have := HX.out.1.size; omega) (by intro e; injection e with e; omega)]; exact HX.out.1.res)⟩; clear hr5 hk5) | (refine wpList_load_row rfl 37 _ rfl (w.heap.size + 1) (by rfl) _ _ _ _ H5.out.2.1 Tryd.underlying37 rfl HI.out ?_) | (refine wpList_store_new rfl 37 _ _ rfl w.heap.size (u8s kb) _ _ (by rfl) (by rfl) H5.out.2.2 HZ.out HI.out (one_u8s _) ?_; intro w6 hw6 hr6; have H6 : Bx (Below w.heap.size w w6 ∧ w6.heap[w.heap.size]? = some (.cells (u8s kb) 37 (0, 0))) := Bx.mk ⟨by rw [hw6]; exact below_setCells (Nat.le_refl _) _ _ _ _ H5.out.1, hr6⟩; clear hw6 hr6))
    refine bodyPost_ret (results_cell_row rfl _ _ w.heap.size _ (u8s kb) _ _ rfl H6.out.2 Tryd.underlying37 rfl HI.out) rfl ?_
    exact ⟨by rw [HKB.out], H6.out.1⟩
  · have t1 : ¬ (64 : Int) < (n : Int) := by omega
    go_upto_region 5 with (fail)
    have HX0 : Bx (Fl w ((w.alloc (.cells z 37)).alloc (.cells z 37)) ∧ Bytes ((w.alloc (.cells z 37)).alloc (.cells z 37)) (.slice a n cap) key ∧ key.length ≤ 64 ∧ fillK key = keyB key) := Bx.mk ⟨HF.out, HV.out.later HF.out.below, by rw [HN.out]; omega, by unfold keyB shortK; rw [if_neg (by rw [HN.out]; exact hlt)]⟩
    generalize (w.alloc (.cells z 37)).alloc (.cells z 37) = w3 at *
    clear HF HV
    have HX : Bx (Fl w w3 ∧ Bytes w3 (.slice a n cap) key ∧ key.length ≤ 64 ∧ fillK key = keyB key) := HX0
    clear HX0
    have HI : Bx ((Tryd.prog.info? 37).map (·.size) = some (u8s (keyB key)).size) := Bx.mk (by rw [u8s_size, keyB_length]; kernel_rfl)
    have HZ : Bx ((u8s (keyB key)).size = (u8s (List.replicate 64 0)).size) := Bx.mk (by rw [u8s_size, u8s_size, keyB_length]; rfl)
    generalize hkb : keyB key = kb at *
    have HKB := Bx.mk hkb
    clear hkb
    go_wp2_with (first | (refine wpList_copy_row rfl _ _ rfl (w.heap.size + 1) 64 64 _ (List.replicate 64 0) key _ (by rfl) (by rfl) HX.out.2.1 HX.out.1.out (by simp) _ rfl ?_; intro w5 hr5 hk5; have H5 : Bx (Below w.heap.size w w5 ∧ w5.heap[w.heap.size + 1]? = some (.cells (u8s kb) 37 (0, 0)) ∧ w5.heap[w.heap.size]? = some (.cells (u8s (List.replicate 64 0)) 37 (0, 0))) := Bx.mk ⟨⟨hk5.os.trans HX.out.1.below.os, hk5.tape.trans HX.out.1.below.tape, hk5.output.trans HX.out.1.below.output, Nat.le_trans HX.out.1.below.size hk5.size, fun i hi => (hk5.block i (by have := HX.out.1.size; omega) (by intro e; injection e with e; omega)).trans (HX.out.1.below.block i hi)⟩, by (rw [← HX.out.2.2.2, ← fill_is _ _ rfl HX.out.2.2.1]; exact hr5), by (rw [hk5.block _ (by have := HX.out.1.size; omega) (by intro e; injection e with e; omega)]; exact HX.out.1.res)⟩; clear hr5 hk5) | (refine wpList_load_row rfl 37 _ rfl (w.heap.size + 1) (by rfl) _ _ _ _ H5.out.2.1 Tryd.underlying37 rfl HI.out ?_) | (refine wpList_store_new rfl 37 _ _ rfl w.heap.size (u8s kb) _ _ (by rfl) (by rfl) H5.out.2.2 HZ.out HI.out (one_u8s _) ?_; intro w6 hw6 hr6; have H6 : Bx (Below w.heap.size w w6 ∧ w6.heap[w.heap.size]? = some (.cells (u8s kb) 37 (0, 0))) := Bx.mk ⟨by rw [hw6]; exact below_setCells (Nat.le_refl _) _ _ _ _ H5.out.1, hr6⟩; clear hw6 hr6))
    refine bodyPost_ret (results_cell_row rfl _ _ w.heap.size _ (u8s kb) _ _ rfl H6.out.2 Tryd.underlying37 rfl HI.out) rfl ?_
    exact ⟨by rw [HKB.out], H6.out.1⟩
end Go.Proofs.YtkfgpnigeknhmaaDoor
