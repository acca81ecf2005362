/-
  The walk of fields that are put.
  The walks of numbers and bytes that are put.
  The walk of the document's example: two fields.
-/
import Derived.Test.YtaoekfomffebhaaDoorIm
namespace Go.Proofs.YtaoekfomffebhaaDoor
open Go Go.RowKit
set_option maxRecDepth 100000 in
set_option maxHeartbeats 2000000 in
theorem put_any (fs : List Fd) (v : Value) (p : Nat) (st : List UInt8 × Int) (w : World) (hW : IsW w p st) (hv : FldsN w p v fs) (hr : ∀ f ∈ fs, -9223372036854775808 ≤ f.n ∧ f.n ≤ 9223372036854775807) (hl : fs.length ≤ 1000000) :
    Calls Tryd.prog 68 #[.pointer (some ⟨p, 0, none⟩), v] w fun e w' => e = .returned (.pointer (some ⟨p, 0, none⟩)) ∧ IsW w' p (fs.foldl putS st) ∧ w.grownBy w' (some p) := by
  have HV := Bx.mk hv
  have HR := Bx.mk hr
  have H0 : Bx (IsW w p ((fs.take 0).foldl putS st) ∧ w.grownBy w (some p)) := Bx.mk ⟨hW, kb_refl _ _⟩
  obtain ⟨a, cap, rfl, -⟩ := hv
  obtain ⟨n, hn⟩ : ∃ n, fs.length = n := ⟨_, rfl⟩
  have HN := Bx.mk hn
  rw [hn] at HV hl ⊢
  have hl1 : (n : Int) ≤ 1000000 := by omega
  clear hn hr hW
  go_enter Tryd.func68, Tryd.ntmps68
  go_wp2_with fail
  go_step3
  go_wp2
  go_step3
  go_wp2
  go_loopw [11] (fun i wr => ∃ k : Nat, k ≤ n ∧ i = .int .i64 (k : Int) ∧ Bx (IsW wr p ((fs.take k).foldl putS st) ∧ w.grownBy wr (some p))) (fun i _ => n - (intOf i).toNat)
  case atStart => exact ⟨0, Nat.zero_le _, rfl, H0⟩
  case round =>
    clear H0
    obtain ⟨k, hk, rfl, HI⟩ := hrel
    by_cases hlt : k < n
    · have hk1 : (k : Int) < (n : Int) := by omega
      obtain ⟨a', cap', hva, hcap, hrow⟩ := HV.out.grown HI.out.2
      injection hva with e1 e2 e3
      rw [HN.out] at hrow
      obtain ⟨g, o, ha, hgp, hf⟩ := hrow (by omega)
      obtain ⟨vb, hrg, hbn⟩ := hf k hlt
      have HSt : Bx ((fs.take (k + 1)).foldl putS st = putS ((fs.take k).foldl putS st) (fs.getD k Fd.zero)) := Bx.mk (fold_take fs st k (by rw [HN.out]; exact hlt))
      have HRk := Bx.mk (HR.out (fs.getD k Fd.zero) (by rw [List.getD_eq_getElem?_getD, List.getElem?_eq_getElem (by rw [HN.out]; exact hlt)]; exact List.getElem_mem _))
      have HFr := Bx.mk (fold_from fs st (k + 1))
      subst ha
      subst e1
      subst e3
      clear e2 hf hrow hcap
      generalize fs.getD k Fd.zero = f at *
      generalize (fs.take k).foldl putS st = sk at *
      obtain ⟨l, er⟩ := sk
      obtain ⟨s, m, b⟩ := f
      simp only at hrg hbn HRk
      obtain ⟨ab, cb, rfl, -⟩ := hbn.1
      obtain ⟨L, hL⟩ : ∃ n, b.length = n := ⟨_, rfl⟩
      have HB := Bx.mk hbn
      have HRg := Bx.mk hrg
      have HL := Bx.mk hL
      rw [hL] at HB HRg
      clear hbn hrg hL
      go_upto_region 6 with (refine wpList_load_mid rfl 96 _ rfl g (o + k * 3) (by rfl) _ _ HRg.out Tryd.underlying96 rfl (by kernel_rfl) ?_)
      have HA : Bx (Below wr.heap.size wr (wr.alloc (.cells #[.int .i64 s, .int .i64 m, .slice ab L cb] 96)) ∧ (wr.alloc (.cells #[.int .i64 s, .int .i64 m, .slice ab L cb] 96)).rangeAt wr.heap.size 0 [.int .i64 s, .int .i64 m, .slice ab L cb] ∧ IsW (wr.alloc (.cells #[.int .i64 s, .int .i64 m, .slice ab L cb] 96)) p (l, er)) := Bx.mk ⟨below_a _, box_range _ _ _ _ _, HI.out.1.later (below_a _) HI.out.1.lt⟩
      have HRf := Bx.mk (refuses_any ⟨s, m, b⟩ _ p l er (wr.alloc (.cells #[.int .i64 s, .int .i64 m, .slice ab L cb] 96)) HA.out.2.2 ⟨_, rfl, HB.out.1.later HA.out.1⟩ HRk.out.1 HRk.out.2)
      have HBp : Bx (wr.heap.size ≠ p) := Bx.mk (by have := HI.out.1.lt; omega)
      have HBl : Bx (wr.heap.size < (wr.alloc (.cells #[.int .i64 s, .int .i64 m, .slice ab L cb] 96)).heap.size) := Bx.mk (by simp)
      have HG := Bx.mk HI.out.2
      have HPS := Bx.mk (putS_rfs l er ⟨s, m, b⟩)
      have HBw : Bx (wr.grownBy (wr.alloc (.cells #[.int .i64 s, .int .i64 m, .slice ab L cb] 96)) (some p)) := Bx.mk (kb_below _ (below_a _))
      generalize (wr.alloc (.cells #[.int .i64 s, .int .i64 m, .slice ab L cb] 96)) = wA at *
      generalize hBB : wr.heap.size = B at *
      clear HI HRg hBB
      by_cases hz : rfs (l, er) ⟨s, m, b⟩ = 0
      · obtain ⟨rfl, hc, hle⟩ := rfs_zero hz
        have HC := Bx.mk hc
        have HPs : Bx (putS (l, 0) ⟨s, m, b⟩ = (l ++ enc ⟨s, m, b⟩, 0)) := Bx.mk (by rw [HPS.out, if_pos hz])
        rw [hz] at HRf
        obtain ⟨u, hu⟩ : ∃ k, l.length = k := ⟨_, rfl⟩
        obtain ⟨el, hel⟩ : ∃ k, (enc ⟨s, m, b⟩).length = k := ⟨_, rfl⟩
        have HU := Bx.mk hu
        have HEL := Bx.mk hel
        have HEp := Bx.mk (enc_pos hc)
        have HEs := Bx.mk hle
        have hep := enc_pos hc
        rw [hu, hel] at hle
        rw [hel] at hep
        have hu3 : (u : Int) < 1024 := by omega
        have hel3 : (el : Int) ≤ 1024 := by omega
        have hsl := fun W => slice_arl p u (by omega) W
        have hwr : IntKind.i64.wrap ((u : Int) + (el : Int)) = (u : Int) + (el : Int) := by rw [IntKind.wrap_i64]; omega
        clear hu hel hz hc hle hep HPS
        have cE := HA.out.2.2.err
        go_wp2_with (refine wpList_load_mid rfl 96 _ rfl B 0 (by rfl) _ _ HA.out.2.1 Tryd.underlying96 rfl (by kernel_rfl) ?_)
        refine HRf.out.mono ?_
        rintro e w3 ⟨rfl, hb3⟩
        have H3 : Bx (IsW w3 p (l, 0) ∧ wr.grownBy w3 (some p) ∧ w3.rangeAt B 0 [.int .i64 s, .int .i64 m, .slice ab L cb]) := Bx.mk ⟨HA.out.2.2.later hb3 HA.out.2.2.lt, kb_trans (HBw.out) (kb_below _ hb3), range_later HA.out.2.1 hb3 HBl.out⟩
        have cE3 := H3.out.1.err
        have fE3 := H3.out.1.thaw 1025
        have HX : Bx (IsW (w3.setCell ⟨p, 1025, none⟩ (.int .i64 0)).drew p (l, 0) ∧ wr.grownBy (w3.setCell ⟨p, 1025, none⟩ (.int .i64 0)).drew (some p) ∧ (w3.setCell ⟨p, 1025, none⟩ (.int .i64 0)).drew.rangeAt B 0 [.int .i64 s, .int .i64 m, .slice ab L cb]) := Bx.mk ⟨H3.out.1.setE 0, kb_trans (kb_trans H3.out.2.1 (kb_set1 _ _ _ _)) (kb_drewN _ _ 1), range_grown H3.out.2.2 (kb_trans (kb_set1 _ _ _ _) (kb_drewN _ _ 1)) HBp.out⟩
        clear hb3 cE HA HRf
        go_upto_region 9 with fail
        refine wp_region_noPanic ?_
        refine wp_region_held_drew (S := fun W => W.rangeAt B 0 [.int .i64 s, .int .i64 m, .slice ab L cb]) (by kernel_rfl) (HX.out.2.2) (fun hHeld => ?_)
        clear H3 cE3 fE3
        generalize (w3.setCell ⟨p, 1025, none⟩ (.int .i64 0)).drew = W0 at *
        refine takeL 0 (v := ?_) rfl (by kernel_rfl) (by kernel_rfl) (by kernel_rfl) (fun _ _ _ h => h) (Or.inl ⟨by rfl, ?_⟩) hHeld ?_
        rotate_left 1
        · (intro w hSw; go_simp; try with_reducible rfl)
        try simp only [Act.put, List.setIfInBounds_toArray, List.set_cons_zero, List.set_cons_succ]
        refine takeL 1 (v := ?_) rfl (by kernel_rfl) (by kernel_rfl) (by kernel_rfl) (fun _ _ _ h => h) (Or.inl ⟨by rfl, ?_⟩) hHeld ?_
        rotate_left 1
        · (intro w hSw; go_simp; try with_reducible rfl)
        try simp only [Act.put, List.setIfInBounds_toArray, List.set_cons_zero, List.set_cons_succ]
        refine takeL 2 (v := ?_) rfl (by kernel_rfl) (by kernel_rfl) (by kernel_rfl) (fun _ _ _ h => h) (Or.inl ⟨by rfl, ?_⟩) hHeld ?_
        rotate_left 1
        · (intro w hSw; go_simp; try with_reducible rfl)
        try simp only [Act.put, List.setIfInBounds_toArray, List.set_cons_zero, List.set_cons_succ]
        refine takeL 4 (v := ?_) rfl (by kernel_rfl) (by kernel_rfl) (by kernel_rfl) (fun _ _ _ h => h) (Or.inl ⟨by rfl, ?_⟩) hHeld ?_
        rotate_left 1
        · (intro w hSw; go_simp; try with_reducible rfl)
        try simp only [Act.put, List.setIfInBounds_toArray, List.set_cons_zero, List.set_cons_succ]
        refine takeL 5 (v := ?_) rfl (by kernel_rfl) (by kernel_rfl) (by kernel_rfl) (fun _ _ _ h => h) (Or.inl ⟨by rfl, ?_⟩) hHeld ?_
        rotate_left 1
        · (intro w hSw; go_simp; try with_reducible rfl)
        try simp only [Act.put, List.setIfInBounds_toArray, List.set_cons_zero, List.set_cons_succ]
        refine takeL 6 (v := ?_) rfl (by kernel_rfl) (by kernel_rfl) (by kernel_rfl) (fun _ _ _ h => h) (Or.inl ⟨by rfl, ?_⟩) hHeld ?_
        rotate_left 1
        · (intro w hSw; go_simp; try with_reducible rfl)
        try simp only [Act.put, List.setIfInBounds_toArray, List.set_cons_zero, List.set_cons_succ]
        refine takeL 7 (v := ?_) rfl (by kernel_rfl) (by kernel_rfl) (by kernel_rfl) (fun _ _ _ h => h) (Or.inl ⟨by rfl, ?_⟩) hHeld ?_
        rotate_left 1
        · (intro w hSw; go_simp; try with_reducible rfl)
        try simp only [Act.put, List.setIfInBounds_toArray, List.set_cons_zero, List.set_cons_succ]
        refine takeL 8 (v := ?_) rfl (by kernel_rfl) (by kernel_rfl) (by kernel_rfl) (fun _ _ _ h => h) (Or.inl ⟨by rfl, ?_⟩) hHeld ?_
        rotate_left 1
        · (intro w hSw; go_simp; try with_reducible rfl)
        try simp only [Act.put, List.setIfInBounds_toArray, List.set_cons_zero, List.set_cons_succ]
        refine takeL 9 (v := ?_) rfl (by kernel_rfl) (by kernel_rfl) (by kernel_rfl) (fun _ _ _ h => h) (Or.inl ⟨by rfl, ?_⟩) hHeld ?_
        rotate_left 1
        · (intro w hSw; go_simp; try with_reducible rfl)
        try simp only [Act.put, List.setIfInBounds_toArray, List.set_cons_zero, List.set_cons_succ]
        refine takeL 12 rfl (by kernel_rfl) (by kernel_rfl) (by kernel_rfl) (fun _ _ _ h => h) (yieldsIf_load_mid (by rfl) _ _ rfl _ _ rfl _ _ (fun w hSw => hSw) Tryd.underlying96 rfl (by kernel_rfl)) hHeld ?_
        try simp only [Act.put, List.setIfInBounds_toArray, List.set_cons_zero, List.set_cons_succ]
        refine wpAnyH_ready (rs := [3, 10, 13]) (by kernel_rfl) (by simp) ?_
        refine consM 3 rfl (fun K hK => ?_) (consM 10 rfl (fun K hK => ?_) (consM 13 rfl (fun K hK => ?_) AllReadyH.nil))
        · have cu := HX.out.1.used
          rw [HU.out] at cu
          go_simp
          refine hK.out _ _ HX.out.2.2 (fun hHeld => ?_)
          clear hK K cu
          try simp only [Act.put, List.setIfInBounds_toArray, List.set_cons_zero, List.set_cons_succ]
          refine wpAnyH_ready (rs := [10, 13]) (by kernel_rfl) (by simp) ?_
          refine consM 10 rfl (fun K hK => ?_) (consM 13 rfl (fun K hK => ?_) AllReadyH.nil)
          · have cu := HX.out.1.used
            rw [HU.out] at cu
            go_simp
            refine hK.out _ _ HX.out.2.2 (fun hHeld => ?_)
            clear hK K cu
            try simp only [Act.put, List.setIfInBounds_toArray, List.set_cons_zero, List.set_cons_succ]
            refine takeL 11 (v := ?_) rfl (by kernel_rfl) (by kernel_rfl) (by kernel_rfl) (fun _ _ _ h => h) (Or.inl ⟨by rfl, ?_⟩) hHeld ?_
            rotate_left 1
            · (intro w hSw; go_simp; try with_reducible rfl)
            try simp only [Act.put, List.setIfInBounds_toArray, List.set_cons_zero, List.set_cons_succ]
            refine stepL 13 (by kernel_rfl) rfl (fun K hK => ?_)
            go_simp
            refine (encoded_any ⟨s, m, b⟩ _ W0 ⟨_, rfl, (HB.out.grown HX.out.2.1).1⟩ HC.out).mono ?_
            rintro e W1 ⟨v1, rfl, ho1, hb1⟩
            show K _ _
            obtain ⟨a1, c1, hv1, -⟩ := ho1.bytes
            rw [HEL.out] at hv1
            subst hv1
            have HX : Bx (IsW W1 p (l, 0) ∧ wr.grownBy W1 (some p) ∧ W1.rangeAt B 0 [.int .i64 s, .int .i64 m, .slice ab L cb]) := Bx.mk ⟨HX.out.1.later hb1 HX.out.1.lt, kb_trans HX.out.2.1 (kb_below _ hb1), range_later HX.out.2.2 hb1 (World.block_lt_of_cell? _ _ (HX.out.2.2 0 _ rfl))⟩
            have HO := Bx.mk ho1.bytes
            clear ho1 hb1
            refine hK.out _ _ HX.out.2.2 (fun hHeld => ?_)
            clear hK K
            try simp only [Act.put, List.setIfInBounds_toArray, List.set_cons_zero, List.set_cons_succ]
            refine stepL 14 (by kernel_rfl) rfl (fun K hK => ?_)
            refine step_copyW rfl _ _ rfl p l 0 HX.out.1 _ (enc ⟨s, m, b⟩) u el HU.out HEL.out (by rfl) (by rfl) HO.out HEp.out HEs.out ?_
            intro W2 hc2 hg2
            have HY : Bx (IsC W2 p l (enc ⟨s, m, b⟩) 0 ∧ wr.grownBy W2 (some p) ∧ W2.rangeAt B 0 [.int .i64 s, .int .i64 m, .slice ab L cb]) := Bx.mk ⟨hc2, kb_trans HX.out.2.1 hg2, range_grown HX.out.2.2 hg2 HBp.out⟩
            clear hc2 hg2 HX HO
            refine hK.out _ _ HY.out.2.2 (fun hHeld => ?_)
            clear hK K
            try simp only [Act.put, List.setIfInBounds_toArray, List.set_cons_zero, List.set_cons_succ]
            refine takeL 15 (v := ?_) rfl (by kernel_rfl) (by kernel_rfl) (by kernel_rfl) (fun _ _ _ h => h) (Or.inl ⟨by rfl, ?_⟩) hHeld ?_
            rotate_left 1
            · (intro w hSw; go_simp; try with_reducible rfl)
            try simp only [Act.put, List.setIfInBounds_toArray, List.set_cons_zero, List.set_cons_succ]
            refine takeL 16 (v := ?_) rfl (by kernel_rfl) (by kernel_rfl) (by kernel_rfl) (fun _ _ _ h => h) (Or.inl ⟨by rfl, ?_⟩) hHeld ?_
            rotate_left 1
            · (intro w hSw; go_simp; try with_reducible rfl)
            try simp only [Act.put, List.setIfInBounds_toArray, List.set_cons_zero, List.set_cons_succ]
            refine takeL 17 (v := ?_) rfl (by kernel_rfl) (by kernel_rfl) (by kernel_rfl) (fun _ _ _ h => h) (Or.inl ⟨by rfl, ?_⟩) hHeld ?_
            rotate_left 1
            · (intro w hSw; go_simp; try with_reducible rfl)
            try simp only [Act.put, List.setIfInBounds_toArray, List.set_cons_zero, List.set_cons_succ]
            refine stepL 18 (by kernel_rfl) rfl (fun K hK => ?_)
            have cu := HY.out.1.used
            rw [HU.out] at cu
            have fu := HY.out.1.thaw 1024
            have HZ : Bx (IsW (W2.setCell ⟨p, 1024, none⟩ (.int .i64 ((u : Int) + (el : Int)))) p (l ++ enc ⟨s, m, b⟩, 0) ∧ wr.grownBy (W2.setCell ⟨p, 1024, none⟩ (.int .i64 ((u : Int) + (el : Int)))) (some p) ∧ (W2.setCell ⟨p, 1024, none⟩ (.int .i64 ((u : Int) + (el : Int)))).rangeAt B 0 [.int .i64 s, .int .i64 m, .slice ab L cb]) := Bx.mk ⟨by have h := HY.out.1.set; rw [HU.out, HEL.out, Int.natCast_add] at h; exact h, kb_trans HY.out.2.1 (kb_set1 _ _ _ _), range_grown HY.out.2.2 (kb_set1 _ _ _ _) HBp.out⟩
            go_simp
            refine hK.out _ _ HZ.out.2.2 (fun hHeld => ?_)
            clear hK K cu fu HY
            try simp only [Act.put, List.setIfInBounds_toArray, List.set_cons_zero, List.set_cons_succ]
            generalize W2.setCell ⟨p, 1024, none⟩ (.int .i64 ((u : Int) + (el : Int))) = WZ at *
            refine wpAnyH_done (by kernel_rfl) ?_ _
            refine NoPanic.normal ?_
            clear hHeld
            go_wp2
            go_roundw
            case rel => exact ⟨k + 1, by omega, by go_num, ⟨by rw [HSt.out, HPs.out]; exact HZ.out.1, kb_trans HG.out HZ.out.2.1⟩⟩
            case measure => simp [intOf]; omega
          · go_simp
            refine (encoded_any ⟨s, m, b⟩ _ W0 ⟨_, rfl, (HB.out.grown HX.out.2.1).1⟩ HC.out).mono ?_
            rintro e W1 ⟨v1, rfl, ho1, hb1⟩
            show K _ _
            obtain ⟨a1, c1, hv1, -⟩ := ho1.bytes
            rw [HEL.out] at hv1
            subst hv1
            have HX : Bx (IsW W1 p (l, 0) ∧ wr.grownBy W1 (some p) ∧ W1.rangeAt B 0 [.int .i64 s, .int .i64 m, .slice ab L cb]) := Bx.mk ⟨HX.out.1.later hb1 HX.out.1.lt, kb_trans HX.out.2.1 (kb_below _ hb1), range_later HX.out.2.2 hb1 (World.block_lt_of_cell? _ _ (HX.out.2.2 0 _ rfl))⟩
            have HO := Bx.mk ho1.bytes
            clear ho1 hb1
            refine hK.out _ _ HX.out.2.2 (fun hHeld => ?_)
            clear hK K
            try simp only [Act.put, List.setIfInBounds_toArray, List.set_cons_zero, List.set_cons_succ]
            refine stepL 10 (by kernel_rfl) rfl (fun K hK => ?_)
            have cu := HX.out.1.used
            rw [HU.out] at cu
            go_simp
            refine hK.out _ _ HX.out.2.2 (fun hHeld => ?_)
            clear hK K cu
            try simp only [Act.put, List.setIfInBounds_toArray, List.set_cons_zero, List.set_cons_succ]
            refine takeL 11 (v := ?_) rfl (by kernel_rfl) (by kernel_rfl) (by kernel_rfl) (fun _ _ _ h => h) (Or.inl ⟨by rfl, ?_⟩) hHeld ?_
            rotate_left 1
            · (intro w hSw; go_simp; try with_reducible rfl)
            try simp only [Act.put, List.setIfInBounds_toArray, List.set_cons_zero, List.set_cons_succ]
            refine stepL 14 (by kernel_rfl) rfl (fun K hK => ?_)
            refine step_copyW rfl _ _ rfl p l 0 HX.out.1 _ (enc ⟨s, m, b⟩) u el HU.out HEL.out (by rfl) (by rfl) HO.out HEp.out HEs.out ?_
            intro W2 hc2 hg2
            have HY : Bx (IsC W2 p l (enc ⟨s, m, b⟩) 0 ∧ wr.grownBy W2 (some p) ∧ W2.rangeAt B 0 [.int .i64 s, .int .i64 m, .slice ab L cb]) := Bx.mk ⟨hc2, kb_trans HX.out.2.1 hg2, range_grown HX.out.2.2 hg2 HBp.out⟩
            clear hc2 hg2 HX HO
            refine hK.out _ _ HY.out.2.2 (fun hHeld => ?_)
            clear hK K
            try simp only [Act.put, List.setIfInBounds_toArray, List.set_cons_zero, List.set_cons_succ]
            refine takeL 15 (v := ?_) rfl (by kernel_rfl) (by kernel_rfl) (by kernel_rfl) (fun _ _ _ h => h) (Or.inl ⟨by rfl, ?_⟩) hHeld ?_
            rotate_left 1
            · (intro w hSw; go_simp; try with_reducible rfl)
            try simp only [Act.put, List.setIfInBounds_toArray, List.set_cons_zero, List.set_cons_succ]
            refine takeL 16 (v := ?_) rfl (by kernel_rfl) (by kernel_rfl) (by kernel_rfl) (fun _ _ _ h => h) (Or.inl ⟨by rfl, ?_⟩) hHeld ?_
            rotate_left 1
            · (intro w hSw; go_simp; try with_reducible rfl)
            try simp only [Act.put, List.setIfInBounds_toArray, List.set_cons_zero, List.set_cons_succ]
            refine takeL 17 (v := ?_) rfl (by kernel_rfl) (by kernel_rfl) (by kernel_rfl) (fun _ _ _ h => h) (Or.inl ⟨by rfl, ?_⟩) hHeld ?_
            rotate_left 1
            · (intro w hSw; go_simp; try with_reducible rfl)
            try simp only [Act.put, List.setIfInBounds_toArray, List.set_cons_zero, List.set_cons_succ]
            refine stepL 18 (by kernel_rfl) rfl (fun K hK => ?_)
            have cu := HY.out.1.used
            rw [HU.out] at cu
            have fu := HY.out.1.thaw 1024
            have HZ : Bx (IsW (W2.setCell ⟨p, 1024, none⟩ (.int .i64 ((u : Int) + (el : Int)))) p (l ++ enc ⟨s, m, b⟩, 0) ∧ wr.grownBy (W2.setCell ⟨p, 1024, none⟩ (.int .i64 ((u : Int) + (el : Int)))) (some p) ∧ (W2.setCell ⟨p, 1024, none⟩ (.int .i64 ((u : Int) + (el : Int)))).rangeAt B 0 [.int .i64 s, .int .i64 m, .slice ab L cb]) := Bx.mk ⟨by have h := HY.out.1.set; rw [HU.out, HEL.out, Int.natCast_add] at h; exact h, kb_trans HY.out.2.1 (kb_set1 _ _ _ _), range_grown HY.out.2.2 (kb_set1 _ _ _ _) HBp.out⟩
            go_simp
            refine hK.out _ _ HZ.out.2.2 (fun hHeld => ?_)
            clear hK K cu fu HY
            try simp only [Act.put, List.setIfInBounds_toArray, List.set_cons_zero, List.set_cons_succ]
            generalize W2.setCell ⟨p, 1024, none⟩ (.int .i64 ((u : Int) + (el : Int))) = WZ at *
            refine wpAnyH_done (by kernel_rfl) ?_ _
            refine NoPanic.normal ?_
            clear hHeld
            go_wp2
            go_roundw
            case rel => exact ⟨k + 1, by omega, by go_num, ⟨by rw [HSt.out, HPs.out]; exact HZ.out.1, kb_trans HG.out HZ.out.2.1⟩⟩
            case measure => simp [intOf]; omega
        · have cu := HX.out.1.used
          rw [HU.out] at cu
          go_simp
          refine hK.out _ _ HX.out.2.2 (fun hHeld => ?_)
          clear hK K cu
          try simp only [Act.put, List.setIfInBounds_toArray, List.set_cons_zero, List.set_cons_succ]
          refine takeL 11 (v := ?_) rfl (by kernel_rfl) (by kernel_rfl) (by kernel_rfl) (fun _ _ _ h => h) (Or.inl ⟨by rfl, ?_⟩) hHeld ?_
          rotate_left 1
          · (intro w hSw; go_simp; try with_reducible rfl)
          try simp only [Act.put, List.setIfInBounds_toArray, List.set_cons_zero, List.set_cons_succ]
          refine wpAnyH_ready (rs := [3, 13]) (by kernel_rfl) (by simp) ?_
          refine consM 3 rfl (fun K hK => ?_) (consM 13 rfl (fun K hK => ?_) AllReadyH.nil)
          · have cu := HX.out.1.used
            rw [HU.out] at cu
            go_simp
            refine hK.out _ _ HX.out.2.2 (fun hHeld => ?_)
            clear hK K cu
            try simp only [Act.put, List.setIfInBounds_toArray, List.set_cons_zero, List.set_cons_succ]
            refine stepL 13 (by kernel_rfl) rfl (fun K hK => ?_)
            go_simp
            refine (encoded_any ⟨s, m, b⟩ _ W0 ⟨_, rfl, (HB.out.grown HX.out.2.1).1⟩ HC.out).mono ?_
            rintro e W1 ⟨v1, rfl, ho1, hb1⟩
            show K _ _
            obtain ⟨a1, c1, hv1, -⟩ := ho1.bytes
            rw [HEL.out] at hv1
            subst hv1
            have HX : Bx (IsW W1 p (l, 0) ∧ wr.grownBy W1 (some p) ∧ W1.rangeAt B 0 [.int .i64 s, .int .i64 m, .slice ab L cb]) := Bx.mk ⟨HX.out.1.later hb1 HX.out.1.lt, kb_trans HX.out.2.1 (kb_below _ hb1), range_later HX.out.2.2 hb1 (World.block_lt_of_cell? _ _ (HX.out.2.2 0 _ rfl))⟩
            have HO := Bx.mk ho1.bytes
            clear ho1 hb1
            refine hK.out _ _ HX.out.2.2 (fun hHeld => ?_)
            clear hK K
            try simp only [Act.put, List.setIfInBounds_toArray, List.set_cons_zero, List.set_cons_succ]
            refine stepL 14 (by kernel_rfl) rfl (fun K hK => ?_)
            refine step_copyW rfl _ _ rfl p l 0 HX.out.1 _ (enc ⟨s, m, b⟩) u el HU.out HEL.out (by rfl) (by rfl) HO.out HEp.out HEs.out ?_
            intro W2 hc2 hg2
            have HY : Bx (IsC W2 p l (enc ⟨s, m, b⟩) 0 ∧ wr.grownBy W2 (some p) ∧ W2.rangeAt B 0 [.int .i64 s, .int .i64 m, .slice ab L cb]) := Bx.mk ⟨hc2, kb_trans HX.out.2.1 hg2, range_grown HX.out.2.2 hg2 HBp.out⟩
            clear hc2 hg2 HX HO
            refine hK.out _ _ HY.out.2.2 (fun hHeld => ?_)
            clear hK K
            try simp only [Act.put, List.setIfInBounds_toArray, List.set_cons_zero, List.set_cons_succ]
            refine takeL 15 (v := ?_) rfl (by kernel_rfl) (by kernel_rfl) (by kernel_rfl) (fun _ _ _ h => h) (Or.inl ⟨by rfl, ?_⟩) hHeld ?_
            rotate_left 1
            · (intro w hSw; go_simp; try with_reducible rfl)
            try simp only [Act.put, List.setIfInBounds_toArray, List.set_cons_zero, List.set_cons_succ]
            refine takeL 16 (v := ?_) rfl (by kernel_rfl) (by kernel_rfl) (by kernel_rfl) (fun _ _ _ h => h) (Or.inl ⟨by rfl, ?_⟩) hHeld ?_
            rotate_left 1
            · (intro w hSw; go_simp; try with_reducible rfl)
            try simp only [Act.put, List.setIfInBounds_toArray, List.set_cons_zero, List.set_cons_succ]
            refine takeL 17 (v := ?_) rfl (by kernel_rfl) (by kernel_rfl) (by kernel_rfl) (fun _ _ _ h => h) (Or.inl ⟨by rfl, ?_⟩) hHeld ?_
            rotate_left 1
            · (intro w hSw; go_simp; try with_reducible rfl)
            try simp only [Act.put, List.setIfInBounds_toArray, List.set_cons_zero, List.set_cons_succ]
            refine stepL 18 (by kernel_rfl) rfl (fun K hK => ?_)
            have cu := HY.out.1.used
            rw [HU.out] at cu
            have fu := HY.out.1.thaw 1024
            have HZ : Bx (IsW (W2.setCell ⟨p, 1024, none⟩ (.int .i64 ((u : Int) + (el : Int)))) p (l ++ enc ⟨s, m, b⟩, 0) ∧ wr.grownBy (W2.setCell ⟨p, 1024, none⟩ (.int .i64 ((u : Int) + (el : Int)))) (some p) ∧ (W2.setCell ⟨p, 1024, none⟩ (.int .i64 ((u : Int) + (el : Int)))).rangeAt B 0 [.int .i64 s, .int .i64 m, .slice ab L cb]) := Bx.mk ⟨by have h := HY.out.1.set; rw [HU.out, HEL.out, Int.natCast_add] at h; exact h, kb_trans HY.out.2.1 (kb_set1 _ _ _ _), range_grown HY.out.2.2 (kb_set1 _ _ _ _) HBp.out⟩
            go_simp
            refine hK.out _ _ HZ.out.2.2 (fun hHeld => ?_)
            clear hK K cu fu HY
            try simp only [Act.put, List.setIfInBounds_toArray, List.set_cons_zero, List.set_cons_succ]
            generalize W2.setCell ⟨p, 1024, none⟩ (.int .i64 ((u : Int) + (el : Int))) = WZ at *
            refine wpAnyH_done (by kernel_rfl) ?_ _
            refine NoPanic.normal ?_
            clear hHeld
            go_wp2
            go_roundw
            case rel => exact ⟨k + 1, by omega, by go_num, ⟨by rw [HSt.out, HPs.out]; exact HZ.out.1, kb_trans HG.out HZ.out.2.1⟩⟩
            case measure => simp [intOf]; omega
          · go_simp
            refine (encoded_any ⟨s, m, b⟩ _ W0 ⟨_, rfl, (HB.out.grown HX.out.2.1).1⟩ HC.out).mono ?_
            rintro e W1 ⟨v1, rfl, ho1, hb1⟩
            show K _ _
            obtain ⟨a1, c1, hv1, -⟩ := ho1.bytes
            rw [HEL.out] at hv1
            subst hv1
            have HX : Bx (IsW W1 p (l, 0) ∧ wr.grownBy W1 (some p) ∧ W1.rangeAt B 0 [.int .i64 s, .int .i64 m, .slice ab L cb]) := Bx.mk ⟨HX.out.1.later hb1 HX.out.1.lt, kb_trans HX.out.2.1 (kb_below _ hb1), range_later HX.out.2.2 hb1 (World.block_lt_of_cell? _ _ (HX.out.2.2 0 _ rfl))⟩
            have HO := Bx.mk ho1.bytes
            clear ho1 hb1
            refine hK.out _ _ HX.out.2.2 (fun hHeld => ?_)
            clear hK K
            try simp only [Act.put, List.setIfInBounds_toArray, List.set_cons_zero, List.set_cons_succ]
            refine wpAnyH_ready (rs := [3, 14]) (by kernel_rfl) (by simp) ?_
            refine consM 3 rfl (fun K hK => ?_) (consM 14 rfl (fun K hK => ?_) AllReadyH.nil)
            · have cu := HX.out.1.used
              rw [HU.out] at cu
              go_simp
              refine hK.out _ _ HX.out.2.2 (fun hHeld => ?_)
              clear hK K cu
              try simp only [Act.put, List.setIfInBounds_toArray, List.set_cons_zero, List.set_cons_succ]
              refine stepL 14 (by kernel_rfl) rfl (fun K hK => ?_)
              refine step_copyW rfl _ _ rfl p l 0 HX.out.1 _ (enc ⟨s, m, b⟩) u el HU.out HEL.out (by rfl) (by rfl) HO.out HEp.out HEs.out ?_
              intro W2 hc2 hg2
              have HY : Bx (IsC W2 p l (enc ⟨s, m, b⟩) 0 ∧ wr.grownBy W2 (some p) ∧ W2.rangeAt B 0 [.int .i64 s, .int .i64 m, .slice ab L cb]) := Bx.mk ⟨hc2, kb_trans HX.out.2.1 hg2, range_grown HX.out.2.2 hg2 HBp.out⟩
              clear hc2 hg2 HX HO
              refine hK.out _ _ HY.out.2.2 (fun hHeld => ?_)
              clear hK K
              try simp only [Act.put, List.setIfInBounds_toArray, List.set_cons_zero, List.set_cons_succ]
              refine takeL 15 (v := ?_) rfl (by kernel_rfl) (by kernel_rfl) (by kernel_rfl) (fun _ _ _ h => h) (Or.inl ⟨by rfl, ?_⟩) hHeld ?_
              rotate_left 1
              · (intro w hSw; go_simp; try with_reducible rfl)
              try simp only [Act.put, List.setIfInBounds_toArray, List.set_cons_zero, List.set_cons_succ]
              refine takeL 16 (v := ?_) rfl (by kernel_rfl) (by kernel_rfl) (by kernel_rfl) (fun _ _ _ h => h) (Or.inl ⟨by rfl, ?_⟩) hHeld ?_
              rotate_left 1
              · (intro w hSw; go_simp; try with_reducible rfl)
              try simp only [Act.put, List.setIfInBounds_toArray, List.set_cons_zero, List.set_cons_succ]
              refine takeL 17 (v := ?_) rfl (by kernel_rfl) (by kernel_rfl) (by kernel_rfl) (fun _ _ _ h => h) (Or.inl ⟨by rfl, ?_⟩) hHeld ?_
              rotate_left 1
              · (intro w hSw; go_simp; try with_reducible rfl)
              try simp only [Act.put, List.setIfInBounds_toArray, List.set_cons_zero, List.set_cons_succ]
              refine stepL 18 (by kernel_rfl) rfl (fun K hK => ?_)
              have cu := HY.out.1.used
              rw [HU.out] at cu
              have fu := HY.out.1.thaw 1024
              have HZ : Bx (IsW (W2.setCell ⟨p, 1024, none⟩ (.int .i64 ((u : Int) + (el : Int)))) p (l ++ enc ⟨s, m, b⟩, 0) ∧ wr.grownBy (W2.setCell ⟨p, 1024, none⟩ (.int .i64 ((u : Int) + (el : Int)))) (some p) ∧ (W2.setCell ⟨p, 1024, none⟩ (.int .i64 ((u : Int) + (el : Int)))).rangeAt B 0 [.int .i64 s, .int .i64 m, .slice ab L cb]) := Bx.mk ⟨by have h := HY.out.1.set; rw [HU.out, HEL.out, Int.natCast_add] at h; exact h, kb_trans HY.out.2.1 (kb_set1 _ _ _ _), range_grown HY.out.2.2 (kb_set1 _ _ _ _) HBp.out⟩
              go_simp
              refine hK.out _ _ HZ.out.2.2 (fun hHeld => ?_)
              clear hK K cu fu HY
              try simp only [Act.put, List.setIfInBounds_toArray, List.set_cons_zero, List.set_cons_succ]
              generalize W2.setCell ⟨p, 1024, none⟩ (.int .i64 ((u : Int) + (el : Int))) = WZ at *
              refine wpAnyH_done (by kernel_rfl) ?_ _
              refine NoPanic.normal ?_
              clear hHeld
              go_wp2
              go_roundw
              case rel => exact ⟨k + 1, by omega, by go_num, ⟨by rw [HSt.out, HPs.out]; exact HZ.out.1, kb_trans HG.out HZ.out.2.1⟩⟩
              case measure => simp [intOf]; omega
            · refine step_copyW rfl _ _ rfl p l 0 HX.out.1 _ (enc ⟨s, m, b⟩) u el HU.out HEL.out (by rfl) (by rfl) HO.out HEp.out HEs.out ?_
              intro W2 hc2 hg2
              have HY : Bx (IsC W2 p l (enc ⟨s, m, b⟩) 0 ∧ wr.grownBy W2 (some p) ∧ W2.rangeAt B 0 [.int .i64 s, .int .i64 m, .slice ab L cb]) := Bx.mk ⟨hc2, kb_trans HX.out.2.1 hg2, range_grown HX.out.2.2 hg2 HBp.out⟩
              clear hc2 hg2 HX HO
              refine hK.out _ _ HY.out.2.2 (fun hHeld => ?_)
              clear hK K
              try simp only [Act.put, List.setIfInBounds_toArray, List.set_cons_zero, List.set_cons_succ]
              refine stepL 3 (by kernel_rfl) rfl (fun K hK => ?_)
              have cu := HY.out.1.used
              rw [HU.out] at cu
              go_simp
              refine hK.out _ _ HY.out.2.2 (fun hHeld => ?_)
              clear hK K cu
              try simp only [Act.put, List.setIfInBounds_toArray, List.set_cons_zero, List.set_cons_succ]
              refine takeL 15 (v := ?_) rfl (by kernel_rfl) (by kernel_rfl) (by kernel_rfl) (fun _ _ _ h => h) (Or.inl ⟨by rfl, ?_⟩) hHeld ?_
              rotate_left 1
              · (intro w hSw; go_simp; try with_reducible rfl)
              try simp only [Act.put, List.setIfInBounds_toArray, List.set_cons_zero, List.set_cons_succ]
              refine takeL 16 (v := ?_) rfl (by kernel_rfl) (by kernel_rfl) (by kernel_rfl) (fun _ _ _ h => h) (Or.inl ⟨by rfl, ?_⟩) hHeld ?_
              rotate_left 1
              · (intro w hSw; go_simp; try with_reducible rfl)
              try simp only [Act.put, List.setIfInBounds_toArray, List.set_cons_zero, List.set_cons_succ]
              refine takeL 17 (v := ?_) rfl (by kernel_rfl) (by kernel_rfl) (by kernel_rfl) (fun _ _ _ h => h) (Or.inl ⟨by rfl, ?_⟩) hHeld ?_
              rotate_left 1
              · (intro w hSw; go_simp; try with_reducible rfl)
              try simp only [Act.put, List.setIfInBounds_toArray, List.set_cons_zero, List.set_cons_succ]
              refine stepL 18 (by kernel_rfl) rfl (fun K hK => ?_)
              have cu := HY.out.1.used
              rw [HU.out] at cu
              have fu := HY.out.1.thaw 1024
              have HZ : Bx (IsW (W2.setCell ⟨p, 1024, none⟩ (.int .i64 ((u : Int) + (el : Int)))) p (l ++ enc ⟨s, m, b⟩, 0) ∧ wr.grownBy (W2.setCell ⟨p, 1024, none⟩ (.int .i64 ((u : Int) + (el : Int)))) (some p) ∧ (W2.setCell ⟨p, 1024, none⟩ (.int .i64 ((u : Int) + (el : Int)))).rangeAt B 0 [.int .i64 s, .int .i64 m, .slice ab L cb]) := Bx.mk ⟨by have h := HY.out.1.set; rw [HU.out, HEL.out, Int.natCast_add] at h; exact h, kb_trans HY.out.2.1 (kb_set1 _ _ _ _), range_grown HY.out.2.2 (kb_set1 _ _ _ _) HBp.out⟩
              go_simp
              refine hK.out _ _ HZ.out.2.2 (fun hHeld => ?_)
              clear hK K cu fu HY
              try simp only [Act.put, List.setIfInBounds_toArray, List.set_cons_zero, List.set_cons_succ]
              generalize W2.setCell ⟨p, 1024, none⟩ (.int .i64 ((u : Int) + (el : Int))) = WZ at *
              refine wpAnyH_done (by kernel_rfl) ?_ _
              refine NoPanic.normal ?_
              clear hHeld
              go_wp2
              go_roundw
              case rel => exact ⟨k + 1, by omega, by go_num, ⟨by rw [HSt.out, HPs.out]; exact HZ.out.1, kb_trans HG.out HZ.out.2.1⟩⟩
              case measure => simp [intOf]; omega
        · go_simp
          refine (encoded_any ⟨s, m, b⟩ _ W0 ⟨_, rfl, (HB.out.grown HX.out.2.1).1⟩ HC.out).mono ?_
          rintro e W1 ⟨v1, rfl, ho1, hb1⟩
          show K _ _
          obtain ⟨a1, c1, hv1, -⟩ := ho1.bytes
          rw [HEL.out] at hv1
          subst hv1
          have HX : Bx (IsW W1 p (l, 0) ∧ wr.grownBy W1 (some p) ∧ W1.rangeAt B 0 [.int .i64 s, .int .i64 m, .slice ab L cb]) := Bx.mk ⟨HX.out.1.later hb1 HX.out.1.lt, kb_trans HX.out.2.1 (kb_below _ hb1), range_later HX.out.2.2 hb1 (World.block_lt_of_cell? _ _ (HX.out.2.2 0 _ rfl))⟩
          have HO := Bx.mk ho1.bytes
          clear ho1 hb1
          refine hK.out _ _ HX.out.2.2 (fun hHeld => ?_)
          clear hK K
          try simp only [Act.put, List.setIfInBounds_toArray, List.set_cons_zero, List.set_cons_succ]
          refine wpAnyH_ready (rs := [3, 10]) (by kernel_rfl) (by simp) ?_
          refine consM 3 rfl (fun K hK => ?_) (consM 10 rfl (fun K hK => ?_) AllReadyH.nil)
          · have cu := HX.out.1.used
            rw [HU.out] at cu
            go_simp
            refine hK.out _ _ HX.out.2.2 (fun hHeld => ?_)
            clear hK K cu
            try simp only [Act.put, List.setIfInBounds_toArray, List.set_cons_zero, List.set_cons_succ]
            refine stepL 10 (by kernel_rfl) rfl (fun K hK => ?_)
            have cu := HX.out.1.used
            rw [HU.out] at cu
            go_simp
            refine hK.out _ _ HX.out.2.2 (fun hHeld => ?_)
            clear hK K cu
            try simp only [Act.put, List.setIfInBounds_toArray, List.set_cons_zero, List.set_cons_succ]
            refine takeL 11 (v := ?_) rfl (by kernel_rfl) (by kernel_rfl) (by kernel_rfl) (fun _ _ _ h => h) (Or.inl ⟨by rfl, ?_⟩) hHeld ?_
            rotate_left 1
            · (intro w hSw; go_simp; try with_reducible rfl)
            try simp only [Act.put, List.setIfInBounds_toArray, List.set_cons_zero, List.set_cons_succ]
            refine stepL 14 (by kernel_rfl) rfl (fun K hK => ?_)
            refine step_copyW rfl _ _ rfl p l 0 HX.out.1 _ (enc ⟨s, m, b⟩) u el HU.out HEL.out (by rfl) (by rfl) HO.out HEp.out HEs.out ?_
            intro W2 hc2 hg2
            have HY : Bx (IsC W2 p l (enc ⟨s, m, b⟩) 0 ∧ wr.grownBy W2 (some p) ∧ W2.rangeAt B 0 [.int .i64 s, .int .i64 m, .slice ab L cb]) := Bx.mk ⟨hc2, kb_trans HX.out.2.1 hg2, range_grown HX.out.2.2 hg2 HBp.out⟩
            clear hc2 hg2 HX HO
            refine hK.out _ _ HY.out.2.2 (fun hHeld => ?_)
            clear hK K
            try simp only [Act.put, List.setIfInBounds_toArray, List.set_cons_zero, List.set_cons_succ]
            refine takeL 15 (v := ?_) rfl (by kernel_rfl) (by kernel_rfl) (by kernel_rfl) (fun _ _ _ h => h) (Or.inl ⟨by rfl, ?_⟩) hHeld ?_
            rotate_left 1
            · (intro w hSw; go_simp; try with_reducible rfl)
            try simp only [Act.put, List.setIfInBounds_toArray, List.set_cons_zero, List.set_cons_succ]
            refine takeL 16 (v := ?_) rfl (by kernel_rfl) (by kernel_rfl) (by kernel_rfl) (fun _ _ _ h => h) (Or.inl ⟨by rfl, ?_⟩) hHeld ?_
            rotate_left 1
            · (intro w hSw; go_simp; try with_reducible rfl)
            try simp only [Act.put, List.setIfInBounds_toArray, List.set_cons_zero, List.set_cons_succ]
            refine takeL 17 (v := ?_) rfl (by kernel_rfl) (by kernel_rfl) (by kernel_rfl) (fun _ _ _ h => h) (Or.inl ⟨by rfl, ?_⟩) hHeld ?_
            rotate_left 1
            · (intro w hSw; go_simp; try with_reducible rfl)
            try simp only [Act.put, List.setIfInBounds_toArray, List.set_cons_zero, List.set_cons_succ]
            refine stepL 18 (by kernel_rfl) rfl (fun K hK => ?_)
            have cu := HY.out.1.used
            rw [HU.out] at cu
            have fu := HY.out.1.thaw 1024
            have HZ : Bx (IsW (W2.setCell ⟨p, 1024, none⟩ (.int .i64 ((u : Int) + (el : Int)))) p (l ++ enc ⟨s, m, b⟩, 0) ∧ wr.grownBy (W2.setCell ⟨p, 1024, none⟩ (.int .i64 ((u : Int) + (el : Int)))) (some p) ∧ (W2.setCell ⟨p, 1024, none⟩ (.int .i64 ((u : Int) + (el : Int)))).rangeAt B 0 [.int .i64 s, .int .i64 m, .slice ab L cb]) := Bx.mk ⟨by have h := HY.out.1.set; rw [HU.out, HEL.out, Int.natCast_add] at h; exact h, kb_trans HY.out.2.1 (kb_set1 _ _ _ _), range_grown HY.out.2.2 (kb_set1 _ _ _ _) HBp.out⟩
            go_simp
            refine hK.out _ _ HZ.out.2.2 (fun hHeld => ?_)
            clear hK K cu fu HY
            try simp only [Act.put, List.setIfInBounds_toArray, List.set_cons_zero, List.set_cons_succ]
            generalize W2.setCell ⟨p, 1024, none⟩ (.int .i64 ((u : Int) + (el : Int))) = WZ at *
            refine wpAnyH_done (by kernel_rfl) ?_ _
            refine NoPanic.normal ?_
            clear hHeld
            go_wp2
            go_roundw
            case rel => exact ⟨k + 1, by omega, by go_num, ⟨by rw [HSt.out, HPs.out]; exact HZ.out.1, kb_trans HG.out HZ.out.2.1⟩⟩
            case measure => simp [intOf]; omega
          · have cu := HX.out.1.used
            rw [HU.out] at cu
            go_simp
            refine hK.out _ _ HX.out.2.2 (fun hHeld => ?_)
            clear hK K cu
            try simp only [Act.put, List.setIfInBounds_toArray, List.set_cons_zero, List.set_cons_succ]
            refine takeL 11 (v := ?_) rfl (by kernel_rfl) (by kernel_rfl) (by kernel_rfl) (fun _ _ _ h => h) (Or.inl ⟨by rfl, ?_⟩) hHeld ?_
            rotate_left 1
            · (intro w hSw; go_simp; try with_reducible rfl)
            try simp only [Act.put, List.setIfInBounds_toArray, List.set_cons_zero, List.set_cons_succ]
            refine wpAnyH_ready (rs := [3, 14]) (by kernel_rfl) (by simp) ?_
            refine consM 3 rfl (fun K hK => ?_) (consM 14 rfl (fun K hK => ?_) AllReadyH.nil)
            · have cu := HX.out.1.used
              rw [HU.out] at cu
              go_simp
              refine hK.out _ _ HX.out.2.2 (fun hHeld => ?_)
              clear hK K cu
              try simp only [Act.put, List.setIfInBounds_toArray, List.set_cons_zero, List.set_cons_succ]
              refine stepL 14 (by kernel_rfl) rfl (fun K hK => ?_)
              refine step_copyW rfl _ _ rfl p l 0 HX.out.1 _ (enc ⟨s, m, b⟩) u el HU.out HEL.out (by rfl) (by rfl) HO.out HEp.out HEs.out ?_
              intro W2 hc2 hg2
              have HY : Bx (IsC W2 p l (enc ⟨s, m, b⟩) 0 ∧ wr.grownBy W2 (some p) ∧ W2.rangeAt B 0 [.int .i64 s, .int .i64 m, .slice ab L cb]) := Bx.mk ⟨hc2, kb_trans HX.out.2.1 hg2, range_grown HX.out.2.2 hg2 HBp.out⟩
              clear hc2 hg2 HX HO
              refine hK.out _ _ HY.out.2.2 (fun hHeld => ?_)
              clear hK K
              try simp only [Act.put, List.setIfInBounds_toArray, List.set_cons_zero, List.set_cons_succ]
              refine takeL 15 (v := ?_) rfl (by kernel_rfl) (by kernel_rfl) (by kernel_rfl) (fun _ _ _ h => h) (Or.inl ⟨by rfl, ?_⟩) hHeld ?_
              rotate_left 1
              · (intro w hSw; go_simp; try with_reducible rfl)
              try simp only [Act.put, List.setIfInBounds_toArray, List.set_cons_zero, List.set_cons_succ]
              refine takeL 16 (v := ?_) rfl (by kernel_rfl) (by kernel_rfl) (by kernel_rfl) (fun _ _ _ h => h) (Or.inl ⟨by rfl, ?_⟩) hHeld ?_
              rotate_left 1
              · (intro w hSw; go_simp; try with_reducible rfl)
              try simp only [Act.put, List.setIfInBounds_toArray, List.set_cons_zero, List.set_cons_succ]
              refine takeL 17 (v := ?_) rfl (by kernel_rfl) (by kernel_rfl) (by kernel_rfl) (fun _ _ _ h => h) (Or.inl ⟨by rfl, ?_⟩) hHeld ?_
              rotate_left 1
              · (intro w hSw; go_simp; try with_reducible rfl)
              try simp only [Act.put, List.setIfInBounds_toArray, List.set_cons_zero, List.set_cons_succ]
              refine stepL 18 (by kernel_rfl) rfl (fun K hK => ?_)
              have cu := HY.out.1.used
              rw [HU.out] at cu
              have fu := HY.out.1.thaw 1024
              have HZ : Bx (IsW (W2.setCell ⟨p, 1024, none⟩ (.int .i64 ((u : Int) + (el : Int)))) p (l ++ enc ⟨s, m, b⟩, 0) ∧ wr.grownBy (W2.setCell ⟨p, 1024, none⟩ (.int .i64 ((u : Int) + (el : Int)))) (some p) ∧ (W2.setCell ⟨p, 1024, none⟩ (.int .i64 ((u : Int) + (el : Int)))).rangeAt B 0 [.int .i64 s, .int .i64 m, .slice ab L cb]) := Bx.mk ⟨by have h := HY.out.1.set; rw [HU.out, HEL.out, Int.natCast_add] at h; exact h, kb_trans HY.out.2.1 (kb_set1 _ _ _ _), range_grown HY.out.2.2 (kb_set1 _ _ _ _) HBp.out⟩
              go_simp
              refine hK.out _ _ HZ.out.2.2 (fun hHeld => ?_)
              clear hK K cu fu HY
              try simp only [Act.put, List.setIfInBounds_toArray, List.set_cons_zero, List.set_cons_succ]
              generalize W2.setCell ⟨p, 1024, none⟩ (.int .i64 ((u : Int) + (el : Int))) = WZ at *
              refine wpAnyH_done (by kernel_rfl) ?_ _
              refine NoPanic.normal ?_
              clear hHeld
              go_wp2
              go_roundw
              case rel => exact ⟨k + 1, by omega, by go_num, ⟨by rw [HSt.out, HPs.out]; exact HZ.out.1, kb_trans HG.out HZ.out.2.1⟩⟩
              case measure => simp [intOf]; omega
            · refine step_copyW rfl _ _ rfl p l 0 HX.out.1 _ (enc ⟨s, m, b⟩) u el HU.out HEL.out (by rfl) (by rfl) HO.out HEp.out HEs.out ?_
              intro W2 hc2 hg2
              have HY : Bx (IsC W2 p l (enc ⟨s, m, b⟩) 0 ∧ wr.grownBy W2 (some p) ∧ W2.rangeAt B 0 [.int .i64 s, .int .i64 m, .slice ab L cb]) := Bx.mk ⟨hc2, kb_trans HX.out.2.1 hg2, range_grown HX.out.2.2 hg2 HBp.out⟩
              clear hc2 hg2 HX HO
              refine hK.out _ _ HY.out.2.2 (fun hHeld => ?_)
              clear hK K
              try simp only [Act.put, List.setIfInBounds_toArray, List.set_cons_zero, List.set_cons_succ]
              refine stepL 3 (by kernel_rfl) rfl (fun K hK => ?_)
              have cu := HY.out.1.used
              rw [HU.out] at cu
              go_simp
              refine hK.out _ _ HY.out.2.2 (fun hHeld => ?_)
              clear hK K cu
              try simp only [Act.put, List.setIfInBounds_toArray, List.set_cons_zero, List.set_cons_succ]
              refine takeL 15 (v := ?_) rfl (by kernel_rfl) (by kernel_rfl) (by kernel_rfl) (fun _ _ _ h => h) (Or.inl ⟨by rfl, ?_⟩) hHeld ?_
              rotate_left 1
              · (intro w hSw; go_simp; try with_reducible rfl)
              try simp only [Act.put, List.setIfInBounds_toArray, List.set_cons_zero, List.set_cons_succ]
              refine takeL 16 (v := ?_) rfl (by kernel_rfl) (by kernel_rfl) (by kernel_rfl) (fun _ _ _ h => h) (Or.inl ⟨by rfl, ?_⟩) hHeld ?_
              rotate_left 1
              · (intro w hSw; go_simp; try with_reducible rfl)
              try simp only [Act.put, List.setIfInBounds_toArray, List.set_cons_zero, List.set_cons_succ]
              refine takeL 17 (v := ?_) rfl (by kernel_rfl) (by kernel_rfl) (by kernel_rfl) (fun _ _ _ h => h) (Or.inl ⟨by rfl, ?_⟩) hHeld ?_
              rotate_left 1
              · (intro w hSw; go_simp; try with_reducible rfl)
              try simp only [Act.put, List.setIfInBounds_toArray, List.set_cons_zero, List.set_cons_succ]
              refine stepL 18 (by kernel_rfl) rfl (fun K hK => ?_)
              have cu := HY.out.1.used
              rw [HU.out] at cu
              have fu := HY.out.1.thaw 1024
              have HZ : Bx (IsW (W2.setCell ⟨p, 1024, none⟩ (.int .i64 ((u : Int) + (el : Int)))) p (l ++ enc ⟨s, m, b⟩, 0) ∧ wr.grownBy (W2.setCell ⟨p, 1024, none⟩ (.int .i64 ((u : Int) + (el : Int)))) (some p) ∧ (W2.setCell ⟨p, 1024, none⟩ (.int .i64 ((u : Int) + (el : Int)))).rangeAt B 0 [.int .i64 s, .int .i64 m, .slice ab L cb]) := Bx.mk ⟨by have h := HY.out.1.set; rw [HU.out, HEL.out, Int.natCast_add] at h; exact h, kb_trans HY.out.2.1 (kb_set1 _ _ _ _), range_grown HY.out.2.2 (kb_set1 _ _ _ _) HBp.out⟩
              go_simp
              refine hK.out _ _ HZ.out.2.2 (fun hHeld => ?_)
              clear hK K cu fu HY
              try simp only [Act.put, List.setIfInBounds_toArray, List.set_cons_zero, List.set_cons_succ]
              generalize W2.setCell ⟨p, 1024, none⟩ (.int .i64 ((u : Int) + (el : Int))) = WZ at *
              refine wpAnyH_done (by kernel_rfl) ?_ _
              refine NoPanic.normal ?_
              clear hHeld
              go_wp2
              go_roundw
              case rel => exact ⟨k + 1, by omega, by go_num, ⟨by rw [HSt.out, HPs.out]; exact HZ.out.1, kb_trans HG.out HZ.out.2.1⟩⟩
              case measure => simp [intOf]; omega
      · have HPs : Bx (putS (l, er) ⟨s, m, b⟩ = (l, rfs (l, er) ⟨s, m, b⟩)) := Bx.mk (by rw [HPS.out, if_neg hz])
        have HRz : Bx (rfs (l, er) ⟨s, m, b⟩ ≠ 0) := Bx.mk hz
        generalize rfs (l, er) ⟨s, m, b⟩ = r at *
        have hr0 : (r == 0) = false := by simp; exact hz
        have cE := HA.out.2.2.err
        go_wp2_with (refine wpList_load_mid rfl 96 _ rfl B 0 (by rfl) _ _ HA.out.2.1 Tryd.underlying96 rfl (by kernel_rfl) ?_)
        refine HRf.out.mono ?_
        rintro e w3 ⟨rfl, hb3⟩
        have H3 : Bx (IsW w3 p (l, er) ∧ wr.grownBy w3 (some p)) := Bx.mk ⟨HA.out.2.2.later hb3 HA.out.2.2.lt, kb_trans (HBw.out) (kb_below _ hb3)⟩
        have cE3 := H3.out.1.err
        have fE3 := H3.out.1.thaw 1025
        have HX : Bx (IsW (w3.setCell ⟨p, 1025, none⟩ (.int .i64 r)) p (fs.foldl putS st) ∧ w.grownBy (w3.setCell ⟨p, 1025, none⟩ (.int .i64 r)) (some p)) := Bx.mk ⟨by rw [HFr.out, HSt.out, HPs.out, fold_stuck _ HRz.out]; exact H3.out.1.setE r, kb_trans HG.out (kb_trans H3.out.2 (kb_set1 _ _ _ _))⟩
        clear hb3 cE HA HRf
        go_wp2
        rw [Exit.noGoto_ret]
        go_ret
        exact ⟨rfl, HX.out⟩
    · obtain rfl : k = n := by omega
      have HE : Bx (IsW wr p (fs.foldl putS st) ∧ w.grownBy wr (some p)) := Bx.mk ⟨by
        have h := HI.out.1
        rw [List.take_of_length_le (by rw [HN.out]; exact Nat.le_refl _)] at h
        exact h, HI.out.2⟩
      clear HI
      go_wp2
      rw [Exit.noGoto_ret]
      go_ret
      exact ⟨rfl, HE.out⟩
end Go.Proofs.YtaoekfomffebhaaDoor
namespace Go.Proofs.YtaoekfomffebhaaDoor
open Go Go.RowKit
/-- A row of numbers. -/
def IntsN (w : World) (p : Nat) (v : Value) (ns : List Int) : Prop :=
  ∃ a cap, v = .slice a ns.length cap ∧ ns.length ≤ cap ∧ (0 < ns.length → ∃ g o, a = some ⟨g, o, none⟩ ∧ g ≠ p ∧ ∀ i, i < ns.length → w.cell? ⟨g, o + i, none⟩ = some (.int .i64 (ns.getD i 0)))
theorem IntsN.grown {w w1 : World} {p : Nat} {v : Value} {ns : List Int} (h : IntsN w p v ns) (hg : w.grownBy w1 (some p)) : IntsN w1 p v ns := by
  obtain ⟨a, cap, hv, hc, hr⟩ := h
  refine ⟨a, cap, hv, hc, fun hp => ?_⟩
  obtain ⟨g, o, ha, hne, hf⟩ := hr hp
  refine ⟨g, o, ha, hne, fun i hi => ?_⟩
  rw [World.cell?_of_block (hg.block g (World.block_lt_of_cell? _ _ (hf i hi)) (fun e => hne (by injection e)))]
  exact hf i hi
/-- A row of bytes. -/
def PartsN (w : World) (p : Nat) (v : Value) (pss : List (List UInt8)) : Prop :=
  ∃ a cap, v = .slice a pss.length cap ∧ pss.length ≤ cap ∧ (0 < pss.length → ∃ g o, a = some ⟨g, o, none⟩ ∧ g ≠ p ∧ ∀ i, i < pss.length → ∃ vb, w.cell? ⟨g, o + i, none⟩ = some vb ∧ BytesN w p vb (pss.getD i []))
theorem PartsN.grown {w w1 : World} {p : Nat} {v : Value} {pss : List (List UInt8)} (h : PartsN w p v pss) (hg : w.grownBy w1 (some p)) : PartsN w1 p v pss := by
  obtain ⟨a, cap, hv, hc, hr⟩ := h
  refine ⟨a, cap, hv, hc, fun hp => ?_⟩
  obtain ⟨g, o, ha, hne, hf⟩ := hr hp
  refine ⟨g, o, ha, hne, fun i hi => ?_⟩
  obtain ⟨vb, h1, h2⟩ := hf i hi
  refine ⟨vb, ?_, h2.grown hg⟩
  rw [World.cell?_of_block (hg.block g (World.block_lt_of_cell? _ _ h1) (fun e => hne (by injection e)))]
  exact h1
/-- One field, as a row. -/
theorem one_fld (W : World) (p : Nat) (f : Fd) (vb : Value) (hb : BytesN W p vb f.b) (hp : p < W.heap.size) :
    FldsN (W.alloc (.cells #[.int .i64 f.s, .int .i64 f.n, vb] 96)) p (.slice (some ⟨W.heap.size, 0, none⟩) 1 1) [f] := by
  refine ⟨_, 1, rfl, Nat.le_refl _, fun _ => ⟨W.heap.size, 0, rfl, by omega, fun i hi => ?_⟩⟩
  obtain rfl : i = 0 := by simp at hi; omega
  exact ⟨vb, box_range _ _ _ _ _, hb.grown (kb_below _ (below_a _))⟩
theorem foldn_take (g : Int → Fd) (ns : List Int) (st : List UInt8 × Int) (k : Nat) (hk : k < ns.length) : ((ns.take (k + 1)).map g).foldl putS st = [g (ns.getD k 0)].foldl putS (((ns.take k).map g).foldl putS st) := by
  rw [List.take_add_one, List.map_append, List.foldl_append, List.getElem?_eq_getElem hk, List.getD_eq_getElem?_getD, List.getElem?_eq_getElem hk]
  rfl
theorem BytesN.nil (w : World) (p : Nat) : BytesN w p (.slice none 0 0) [] := ⟨Bytes.nil w, fun h => absurd h (by simp)⟩
/-- A field of a number. -/
def fNum (s n : Int) : Fd := ⟨s, n, []⟩
/-- A field of bytes. -/
def fByt (b : List UInt8) : Fd := ⟨4, 0, b⟩
set_option maxRecDepth 100000 in
set_option maxHeartbeats 2000000 in
theorem wnum_any (s : Int) (ns : List Int) (v : Value) (p : Nat) (st : List UInt8 × Int) (w : World) (hW : IsW w p st) (hv : IntsN w p v ns) (hr : ∀ n ∈ ns, -9223372036854775808 ≤ n ∧ n ≤ 9223372036854775807) (hl : ns.length ≤ 1000000) :
    Calls Tryd.prog 65 #[.pointer (some ⟨p, 0, none⟩), .int .i64 s, v] w fun e w' => e = .returned (.pointer (some ⟨p, 0, none⟩)) ∧ IsW w' p ((ns.map (fNum s)).foldl putS st) ∧ w.grownBy w' (some p) := by
  have HV := Bx.mk hv
  have HR := Bx.mk hr
  have H0 : Bx (IsW w p (((ns.take 0).map (fNum s)).foldl putS st) ∧ w.grownBy w (some p)) := Bx.mk ⟨hW, kb_refl _ _⟩
  obtain ⟨a, cap, rfl, -⟩ := hv
  obtain ⟨n, hn⟩ : ∃ n, ns.length = n := ⟨_, rfl⟩
  have HN := Bx.mk hn
  rw [hn] at HV hl ⊢
  have hl1 : (n : Int) ≤ 1000000 := by omega
  clear hn hr hW
  go_enter Tryd.func65, Tryd.ntmps65
  go_wp2
  go_loopw [11] (fun i wr => ∃ k : Nat, k ≤ n ∧ i = .int .i64 (k : Int) ∧ Bx (IsW wr p (((ns.take k).map (fNum s)).foldl putS st) ∧ w.grownBy wr (some p))) (fun i _ => n - (intOf i).toNat)
  case atStart => exact ⟨0, Nat.zero_le _, rfl, H0⟩
  case round =>
    clear H0
    obtain ⟨k, hk, rfl, HI⟩ := hrel
    by_cases hlt : k < n
    · have hk1 : (k : Int) < (n : Int) := by omega
      obtain ⟨a', cap', hva, hcap, hrow⟩ := HV.out.grown HI.out.2
      injection hva with e1 e2 e3
      rw [HN.out] at hrow
      obtain ⟨g, o, ha, hgp, hf⟩ := hrow (by omega)
      have hcell := hf k hlt
      have HSt := Bx.mk (foldn_take (fNum s) ns st k (by rw [HN.out]; exact hlt))
      have HRk := Bx.mk (HR.out (ns.getD k 0) (by rw [List.getD_eq_getElem?_getD, List.getElem?_eq_getElem (by rw [HN.out]; exact hlt)]; exact List.getElem_mem _))
      subst ha
      subst e1
      subst e3
      clear e2 hf hrow hcap
      generalize ns.getD k 0 = m at *
      generalize ((ns.take k).map (fNum s)).foldl putS st = sk at *
      have HA : Bx (IsW (wr.alloc (.cells #[.int .i64 s, .int .i64 m, .slice none 0 0] 96)) p sk ∧ FldsN (wr.alloc (.cells #[.int .i64 s, .int .i64 m, .slice none 0 0] 96)) p (.slice (some ⟨wr.heap.size, 0, none⟩) 1 1) [fNum s m] ∧ wr.grownBy (wr.alloc (.cells #[.int .i64 s, .int .i64 m, .slice none 0 0] 96)) (some p)) := Bx.mk ⟨HI.out.1.later (below_a _) HI.out.1.lt, one_fld wr p (fNum s m) _ (BytesN.nil _ _) HI.out.1.lt, kb_below _ (below_a _)⟩
      have HP := Bx.mk (put_any [fNum s m] _ p sk _ HA.out.1 HA.out.2.1 (fun f hf => by simp at hf; subst hf; exact HRk.out) (by simp))
      go_wp2_with fail
      refine HP.out.mono ?_
      rintro e w3 ⟨rfl, hw3, hg3⟩
      have H3 : Bx (IsW w3 p (((ns.take (k + 1)).map (fNum s)).foldl putS st) ∧ w.grownBy w3 (some p)) := Bx.mk ⟨by rw [HSt.out]; exact hw3, kb_trans HI.out.2 (kb_trans HA.out.2.2 hg3)⟩
      clear hw3 hg3 HI HA HP
      go_wp2
      go_roundw
      case rel => exact ⟨k + 1, by omega, by go_num, H3⟩
      case measure => simp [intOf]; omega
    · obtain rfl : k = n := by omega
      have HE : Bx (IsW wr p ((ns.map (fNum s)).foldl putS st) ∧ w.grownBy wr (some p)) := Bx.mk ⟨by
        have h := HI.out.1
        rw [List.take_of_length_le (by rw [HN.out]; exact Nat.le_refl _)] at h
        exact h, HI.out.2⟩
      clear HI
      go_wp2
      go_ret
      exact ⟨rfl, HE.out⟩
end Go.Proofs.YtaoekfomffebhaaDoor
namespace Go.Proofs.YtaoekfomffebhaaDoor
open Go Go.RowKit
/-- A new writer. -/
theorem zero_wr : ∃ z : Array Value, (∀ W : World, (zeroValue 118).run Tryd.prog W = .ok (.agg z) W) ∧ z = wrC (List.replicate 1024 0) 0 0 := ⟨_, fun W => by kernel_rfl, rfl⟩
theorem new_wr (W : World) (z : Array Value) (hz : z = wrC (List.replicate 1024 0) 0 0) : IsW (W.alloc (.cells z 118)) W.heap.size ([], 0) := by
  subst hz
  exact ⟨List.replicate 1024 0, List.length_replicate, Nat.zero_le _, List.take_zero, by rw [hnew _ _ _ rfl]; rfl⟩
theorem ints_one (W : World) (p : Nat) (n : Int) (t : TypeId) (hp : p < W.heap.size) : IntsN (W.alloc (.cells #[.int .i64 n] t)) p (.slice (some ⟨W.heap.size, 0, none⟩) 1 1) [n] := by
  refine ⟨_, 1, rfl, Nat.le_refl _, fun _ => ⟨W.heap.size, 0, rfl, by omega, fun i hi => ?_⟩⟩
  obtain rfl : i = 0 := by simp at hi; omega
  rw [cell_of_row _ _ _ _ _ _ (hnew _ _ _ rfl)]
  rfl
theorem grown_below {w w1 : World} {p : Nat} (h : w.grownBy w1 (some p)) {B : Nat} (hB : B ≤ p) (hs : B ≤ w.heap.size) : Below B w w1 := ⟨h.os, h.tape, h.output, h.size, fun i hi => h.block i (by omega) (fun e => by injection e with e; omega)⟩
end Go.Proofs.YtaoekfomffebhaaDoor
namespace Go.Proofs.YtaoekfomffebhaaDoor
open Go Go.RowKit
end Go.Proofs.YtaoekfomffebhaaDoor
namespace Go.Proofs.YtaoekfomffebhaaDoor
open Go Go.RowKit
/-- The number that bytes say, the highest first. -/
def valN (l : List UInt8) : Nat := l.foldl (fun a x => a * 256 + x.toNat) 0
end Go.Proofs.YtaoekfomffebhaaDoor
namespace Go.Proofs.YtaoekfomffebhaaDoor
open Go Go.RowKit
end Go.Proofs.YtaoekfomffebhaaDoor
namespace Go.Proofs.YtaoekfomffebhaaDoor
open Go Go.RowKit
/-- What is got of bytes: the field, the bytes behind it, the error. -/
def getF (l : List UInt8) (s : Int) : Fd × List UInt8 × Int :=
  if s < 0 ∨ 4 < s then (Fd.zero, [], 13)
  else if s = 4 then
    (if l.length < 2 then (Fd.zero, [], 4) else if 512 < valN (l.take 2) then (Fd.zero, [], 3) else if l.length - 2 < valN (l.take 2) then (Fd.zero, [], 4)
     else (⟨4, 0, (l.drop 2).take (valN (l.take 2))⟩, (l.drop 2).drop (valN (l.take 2)), 0))
  else if l.length < wid s then (Fd.zero, [], 4) else if 9223372036854775807 < valN (l.take (wid s)) then (Fd.zero, [], 3) else (⟨s, (valN (l.take (wid s)) : Int), []⟩, l.drop (wid s), 0)
end Go.Proofs.YtaoekfomffebhaaDoor
namespace Go.Proofs.YtaoekfomffebhaaDoor
open Go Go.RowKit
/-- What a reader's Get does: nothing behind an error. -/
def getR (l : List UInt8) (er s : Int) : Fd × List UInt8 × Int := if er ≠ 0 then (Fd.zero, l, er) else getF l s
/-- A reader stays where a block that isn't one of bytes changes. -/
theorem IsR.asideT {w w1 : World} {q D : Nat} {cs : Array Value} {t : TypeId} {fr : Nat × Nat} {l : List UInt8} {e : Int} (h : IsR w q l e) (hr : w.heap[D]? = some (.cells cs t fr)) (ht : t ≠ 5) (hg : w.grownBy w1 (some D)) (hne : q ≠ D) : IsR w1 q l e := by
  have hq := h.lt
  obtain ⟨v, h1, h2, h3⟩ := h
  have hn : 0 < l.length → v.ownBlock ≠ some D := fun h0 hv => by
    obtain ⟨cs', fr', hc⟩ := h3 h0 D hv
    rw [hr] at hc
    injection hc with hc
    injection hc with _ hc
    exact ht hc
  exact ⟨v, by rw [hg.block q hq (fun e => hne (by injection e))]; exact h1, ⟨(BytesN.grown (p := D) ⟨h2.1, hn⟩ hg).1, h2.2⟩, h3.grown hg hn⟩
/-- A reader's bytes and error, a field on. -/
def stepR (p : List UInt8 × Int) (s : Int) : List UInt8 × Int := (getR p.1 p.2 s).2
/-- The number that is read. -/
def numR (p : List UInt8 × Int) (s : Int) : Int := (getR p.1 p.2 s).1.n
end Go.Proofs.YtaoekfomffebhaaDoor
