/-
  Rings: New, Own, To; a nil ring; tokens of the statements.
-/
import Derived.Test.YtdionedinmkeiaaDoorYc
namespace Go.Proofs.YtdionedinmkeiaaDoor
open Go Go.RowKit
/-- What a new ring holds behind its token. -/
def rg0 : List Value := [.map none, .pointer none, .pointer none, .pointer none, .pointer none, .pointer none, .pointer none, .pointer none, .pointer none]
/-- A ring's cells: its token's, and the others. -/
def rgC (tk : List Value) (rest : List Value) : Array Value := (tk ++ rest).toArray
theorem list36 {α : Type} (l : List α) (h : l.length = 36) : ∃ v0 v1 v2 v3 v4 v5 v6 v7 v8 v9 v10 v11 v12 v13 v14 v15 v16 v17 v18 v19 v20 v21 v22 v23 v24 v25 v26 v27 v28 v29 v30 v31 v32 v33 v34 v35 : α, l = [v0, v1, v2, v3, v4, v5, v6, v7, v8, v9, v10, v11, v12, v13, v14, v15, v16, v17, v18, v19, v20, v21, v22, v23, v24, v25, v26, v27, v28, v29, v30, v31, v32, v33, v34, v35] := by
  match l, h with
  | v0 :: v1 :: v2 :: v3 :: v4 :: v5 :: v6 :: v7 :: v8 :: v9 :: v10 :: v11 :: v12 :: v13 :: v14 :: v15 :: v16 :: v17 :: v18 :: v19 :: v20 :: v21 :: v22 :: v23 :: v24 :: v25 :: v26 :: v27 :: v28 :: v29 :: v30 :: v31 :: v32 :: v33 :: v34 :: v35 :: [], _ => exact ⟨_, _, _, _, _, _, _, _, _, _, _, _, _, _, _, _, _, _, _, _, _, _, _, _, _, _, _, _, _, _, _, _, _, _, _, _, rfl⟩
set_option maxRecDepth 100000 in
theorem rg_built36 (v0 v1 v2 v3 v4 v5 v6 v7 v8 v9 v10 v11 v12 v13 v14 v15 v16 v17 v18 v19 v20 v21 v22 v23 v24 v25 v26 v27 v28 v29 v30 v31 v32 v33 v34 v35 : Value) : Tryd.prog.built 85 [(0, .agg #[v0, v1, v2, v3, v4, v5, v6, v7, v8, v9, v10, v11, v12, v13, v14, v15, v16, v17, v18, v19, v20, v21, v22, v23, v24, v25, v26, v27, v28, v29, v30, v31, v32, v33, v34, v35])] = some (rgC [v0, v1, v2, v3, v4, v5, v6, v7, v8, v9, v10, v11, v12, v13, v14, v15, v16, v17, v18, v19, v20, v21, v22, v23, v24, v25, v26, v27, v28, v29, v30, v31, v32, v33, v34, v35] rg0) := by kernel_rfl
theorem rg_built (kl : List Value) (h : kl.length = 36) : Tryd.prog.built 85 [(0, .agg kl.toArray)] = some (rgC kl rg0) := by
  obtain ⟨v0, v1, v2, v3, v4, v5, v6, v7, v8, v9, v10, v11, v12, v13, v14, v15, v16, v17, v18, v19, v20, v21, v22, v23, v24, v25, v26, v27, v28, v29, v30, v31, v32, v33, v34, v35, rfl⟩ := list36 kl h
  exact rg_built36 v0 v1 v2 v3 v4 v5 v6 v7 v8 v9 v10 v11 v12 v13 v14 v15 v16 v17 v18 v19 v20 v21 v22 v23 v24 v25 v26 v27 v28 v29 v30 v31 v32 v33 v34 v35
theorem rg_range {W : World} {R : Nat} {kl rest : List Value} {t : TypeId} (h : W.heap[R]? = some (.cells (rgC kl rest) t (0, 0))) : W.rangeAt R 0 kl := by
  intro j u hj
  show W.cell? ⟨R, 0 + j, none⟩ = some u
  rw [cell_of_row _ _ _ _ _ _ h, Nat.zero_add]
  have hl := (List.getElem?_eq_some_iff.1 hj).1
  unfold rgC
  rw [List.getElem?_toArray, List.getElem?_append_left hl]
  exact hj
set_option maxRecDepth 100000 in
set_option maxHeartbeats 1000000 in
theorem ring_new (c : Cl) (s : List UInt8) (w : World) (hs : s.length = 32) : Calls Tryd.prog 23 #[tkV c s] w fun e w' =>
    (okC c = false → e = .returned (.tuple #[.pointer none, .int .i64 10])) ∧ (okC c = true → ∃ R, e = .returned (.tuple #[.pointer (some ⟨R, 0, none⟩), .int .i64 0]) ∧ w.heap.size ≤ R ∧ w'.heap[R]? = some (.cells (rgC (tkC c s).toList rg0) 85 (0, 0))) ∧ Below w.heap.size w w' := by
  obtain ⟨kl, hkl⟩ : ∃ kl : List Value, tkC c s = kl.toArray := ⟨_, rfl⟩
  have HK := Bx.mk hkl
  have HL : Bx (kl.length = 36) := Bx.mk (by rw [show kl.length = kl.toArray.size from rfl, ← hkl, tkC_size _ _ hs])
  have HC4 : Bx (∀ (W : World) (D : Nat) (t : TypeId), W.heap[D]? = some (.cells kl.toArray t (0, 0)) → W.rangeAt D 0 (clC c).toList) := Bx.mk fun W D t h => by rw [← hkl] at h; exact tk_cl h
  have HI : Bx ((Tryd.prog.info? 53).map (·.size) = some kl.length) := Bx.mk (by rw [HL.out]; kernel_rfl)
  have HB := Bx.mk (rg_built kl HL.out)
  have HCk : Bx (∀ W : World, Calls Tryd.prog 44 #[.agg (clC c)] W fun e w' => e = .returned (.int .i64 (if okC c = true then 0 else 10)) ∧ Below W.heap.size W w') := Bx.mk fun W => ccheck_any c W
  unfold tkV
  rw [hkl]
  obtain ⟨ck, hck⟩ : ∃ ck : List Value, (clC c).toList = ck := ⟨_, rfl⟩
  have HX : Bx (clC c = ck.toArray ∧ (Tryd.prog.info? 37).map (·.size) = some ck.length) := Bx.mk ⟨by rw [← hck], by rw [← hck]; kernel_rfl⟩
  rw [hck] at HC4
  rw [HX.out.1] at HCk
  have HX2 := Bx.mk HX.out.2
  clear hkl hck hs HX
  obtain ⟨B, hB⟩ : ∃ B, w.heap.size = B := ⟨_, rfl⟩
  have H0 := Bx.mk ((KS.start w B hB).new (.cells kl.toArray 53))
  obtain ⟨rr, hrr⟩ : ∃ rr, rgC kl rg0 = rr := ⟨_, rfl⟩
  have HR := Bx.mk hrr
  rw [hrr] at HB
  rw [List.toList_toArray, hrr]
  clear hrr
  rw [hB] at H0 ⊢
  cases hc : okC c
  · rw [hc, if_neg (by decide)] at HCk
    clear hc
    go_enter Tryd.func23, Tryd.ntmps23
    go_upto_region 1 with fail
    generalize w.alloc (.cells kl.toArray 53) = w0 at *
    go_wp2_with (refine wpList_load_mid rfl 37 _ rfl B 0 (by rfl) ck _ (HC4.out _ _ _ (H0.out.rows _ (.head _))) Tryd.underlying37 rfl HX2.out ?_)
    refine (HCk.out w0).mono ?_
    rintro e w1 ⟨rfl, hb⟩
    have H1 := Bx.mk (H0.out.later hb)
    clear hb H0
    go_wp2
    go_ret2
    exact ⟨fun _ => rfl, (fun h => by cases h), H1.out.below⟩
  · rw [hc, if_pos rfl] at HCk
    clear hc
    go_enter Tryd.func23, Tryd.ntmps23
    go_upto_region 1 with fail
    generalize w.alloc (.cells kl.toArray 53) = w0 at *
    go_wp2_with (refine wpList_load_mid rfl 37 _ rfl B 0 (by rfl) ck _ (HC4.out _ _ _ (H0.out.rows _ (.head _))) Tryd.underlying37 rfl HX2.out ?_)
    refine (HCk.out w0).mono ?_
    rintro e w1 ⟨rfl, hb⟩
    have H1 := Bx.mk (H0.out.later hb)
    clear hb H0
    go_upto_region 4 with fail
    go_wp2_with (first | (refine wpList_load_mid rfl 53 _ rfl B 0 (by rfl) kl _ (row_rng (H1.out.rows _ (.head _))) Tryd.underlying53 rfl HI.out ?_) | (refine wpList_buildTo rfl 85 _ rfl _ rfl rr (by simp only [List.map_toArray, List.map_cons, List.map_nil]; exact HB.out) ?_))
    have H2 := Bx.mk (H1.out.new (.cells rr 85))
    go_ret2
    exact ⟨(fun h => by cases h), fun _ => ⟨_, rfl, H1.out.le, H2.out.rows _ (.head _)⟩, H2.out.below⟩
set_option maxRecDepth 100000 in
set_option maxHeartbeats 1000000 in
theorem own_any (c : Cl) (s : List UInt8) (R : Nat) (rest : List Value) (w : World) (hs : s.length = 32) (hr : w.heap[R]? = some (.cells (rgC (tkC c s).toList rest) 85 (0, 0))) :
    Calls Tryd.prog 32 #[.pointer (some ⟨R, 0, none⟩)] w fun e w' => e = .returned (tkV c s) ∧ Below w.heap.size w w' := by
  obtain ⟨zc, hzc⟩ : ∃ zc, tkC c0 z32 = zc := ⟨_, rfl⟩
  have hzv : ∀ W : World, (zeroValue 53).run Tryd.prog W = .ok (.agg zc) W := fun W => by rw [← hzc]; exact tk_zero W
  obtain ⟨kl, hkl⟩ : ∃ kl : List Value, tkC c s = kl.toArray := ⟨_, rfl⟩
  have HI : Bx ((Tryd.prog.info? 53).map (·.size) = some kl.toArray.size ∧ kl.toArray.all (·.oneCell') = true ∧ kl.toArray.size = zc.size ∧ (Tryd.prog.info? 81).map (·.size) = some kl.length) := Bx.mk (by rw [show kl.length = kl.toArray.size from rfl, ← hkl, ← hzc]; exact ⟨tk_info _ _ hs, tkC_one _ _, by rw [tkC_size _ _ hs, tkC_size _ _ rfl], by rw [tkC_size _ _ hs]; kernel_rfl⟩)
  unfold tkV
  rw [hkl] at hr ⊢
  rw [List.toList_toArray] at hr
  have HG := rg_range hr
  clear hzc hkl hs
  obtain ⟨B, hB⟩ : ∃ B, w.heap.size = B := ⟨_, rfl⟩
  have H0 := Bx.mk (And.intro ((KS.start w B hB).new (.cells zc 53)) (rg_range (show (w.alloc (.cells zc 53)).heap[R]? = _ by rw [hold _ _ _ (Array.getElem?_eq_some_iff.1 hr).1]; exact hr)))
  clear HG hr
  rw [hB] at H0 ⊢
  go_enter Tryd.func32, Tryd.ntmps32
  go_upto_region 3 with fail
  generalize w.alloc (.cells zc 53) = w0 at *
  go_wp2_with (first | (refine wpList_load_mid rfl 81 _ rfl R 0 (by rfl) kl _ H0.out.2 Tryd.underlying81 rfl HI.out.2.2.2 ?_) | (refine wpList_store_new rfl 53 _ _ rfl B kl.toArray zc _ (by rfl) (by rfl) (H0.out.1.rows _ (.head _)) HI.out.2.2.1 HI.out.1 HI.out.2.1 ?_; intro w8 hw8 hr8; have hg8 := Bx.mk (kb_of hw8); have HR8 := Bx.mk hr8; clear hw8 hr8))
  refine bodyPost_ret (results_cell_row rfl _ _ B _ kl.toArray _ _ rfl HR8.out Tryd.underlying53 rfl HI.out.1) rfl ?_
  exact ⟨rfl, H0.out.1.below.trans (grown_below hg8.out (by omega) H0.out.1.le)⟩
set_option maxRecDepth 100000 in
theorem own_nil (w : World) : Calls Tryd.prog 32 #[.pointer none] w fun e w' => e = .returned (tkV c0 z32) ∧ Below w.heap.size w w' := by
  obtain ⟨zc, hzc⟩ : ∃ zc, tkC c0 z32 = zc := ⟨_, rfl⟩
  have hzv : ∀ W : World, (zeroValue 53).run Tryd.prog W = .ok (.agg zc) W := fun W => by rw [← hzc]; exact tk_zero W
  have hbz : Tryd.prog.built 53 [] = some zc := by rw [← hzc]; exact tk_none
  have HI : Bx ((Tryd.prog.info? 53).map (·.size) = some zc.size ∧ zc.all (·.oneCell') = true) := Bx.mk (by rw [← hzc]; exact ⟨tk_info _ _ rfl, tkC_one _ _⟩)
  unfold tkV
  rw [hzc]
  clear hzc
  obtain ⟨B, hB⟩ : ∃ B, w.heap.size = B := ⟨_, rfl⟩
  have H0 := Bx.mk ((KS.start w B hB).new (.cells zc 53))
  rw [hB] at H0 ⊢
  go_enter Tryd.func32, Tryd.ntmps32
  go_upto_region 2 with fail
  generalize w.alloc (.cells zc 53) = w0 at *
  go_wp2_with (first | (refine wpList_buildTo rfl 53 _ rfl _ rfl zc hbz ?_) | (refine wpList_store_new rfl 53 _ _ rfl B zc zc _ (by rfl) (by rfl) (H0.out.rows _ (.head _)) rfl HI.out.1 HI.out.2 ?_; intro w8 hw8 hr8; have hg8 := Bx.mk (kb_of hw8); have HR8 := Bx.mk hr8; clear hw8 hr8))
  refine bodyPost_ret (results_cell_row rfl _ _ B _ zc _ _ rfl HR8.out Tryd.underlying53 rfl HI.out.1) rfl ?_
  exact ⟨rfl, H0.out.below.trans (grown_below hg8.out (by omega) H0.out.le)⟩
set_option maxRecDepth 100000 in
theorem to_nil (n : Int) (w : World) : Calls Tryd.prog 24 #[.pointer none, .int .i64 n] w fun e w' => e = .returned (.tuple #[.pointer none, .int .i64 11]) ∧ w = w' := by
  go_enter Tryd.func24, Tryd.ntmps24
  go_wp2
  go_ret2
  exact ⟨rfl, rfl⟩
set_option maxRecDepth 100000 in
theorem to_bad (c : Cl) (s : List UInt8) (R : Nat) (rest : List Value) (w : World) (hs : s.length = 32) (hr : w.heap[R]? = some (.cells (rgC (tkC c s).toList rest) 85 (0, 0))) (n : Int) (h : n < 1 ∨ 65535 < n) :
    Calls Tryd.prog 24 #[.pointer (some ⟨R, 0, none⟩), .int .i64 n] w fun e w' => e = .returned (.tuple #[.pointer none, .int .i64 10]) ∧ Below w.heap.size w w' := by
  have HS := Bx.mk fun (W : World) (p : Nat) => sen_bad p n W h
  have HO : Bx (∀ W, w.heap[R]? = W.heap[R]? → Calls Tryd.prog 32 #[.pointer (some ⟨R, 0, none⟩)] W fun e w' => e = .returned (.agg (tkC c s)) ∧ Below W.heap.size W w') := Bx.mk fun W he => own_any c s R rest W hs (by rw [← he]; exact hr)
  have HTk : Bx (∀ W : World, Calls Tryd.prog 37 #[.agg (tkC c s)] W fun e w' => ∃ v', e = .returned v' ∧ KeyO w' W.heap.size v' s ∧ Below W.heap.size W w') := Bx.mk fun W => tkey_any c s W hs
  generalize tkC c s = kk at *
  
  clear hr hs h
  go_enter Tryd.func24, Tryd.ntmps24
  go_wp2_with fail
  refine (HO.out w rfl).mono ?_
  rintro e w1 ⟨rfl, hb1⟩
  go_wp2_with fail
  refine (HTk.out w1).mono ?_
  rintro e w2 ⟨v2, rfl, hk2, hb2⟩
  have H2 := Bx.mk (And.intro (hb1.trans (hb2.mono hb1.size)) hk2.key)
  clear hb1 hb2 hk2
  obtain ⟨p2, s2, hv2, -, -⟩ := H2.out.2
  subst hv2
  go_wp2_with fail
  refine (HS.out w2 p2).mono ?_
  rintro e w5 ⟨rfl, rfl⟩
  go_wp2
  go_ret2
  exact ⟨rfl, H2.out.1⟩
set_option maxRecDepth 100000 in
theorem to_ok (c : Cl) (s : List UInt8) (R : Nat) (rest : List Value) (n : Nat) (w : World) (hs : s.length = 32) (hr : w.heap[R]? = some (.cells (rgC (tkC c s).toList rest) 85 (0, 0))) (h1 : 1 ≤ n) (h2 : n ≤ 65535) (hTab : Tab w) (hg : 0 < w.heap.size) :
    Calls Tryd.prog 24 #[.pointer (some ⟨R, 0, none⟩), .int .i64 (n : Int)] w fun e w' => ∃ v', e = .returned (.tuple #[v', .int .i64 0]) ∧ KeyO w' w.heap.size v' (senK s n) ∧ Below w.heap.size w w' := by
  have HS : Bx (∀ W vk, Below w.heap.size w W → IsKey W vk s → Calls Tryd.prog 19 #[vk, .int .i64 (n : Int)] W fun e w' => ∃ v', e = .returned (.tuple #[v', .int .i64 0]) ∧ KeyO w' W.heap.size v' (senK s n) ∧ Below W.heap.size W w') := Bx.mk fun W vk hb hv => sen_ok s n vk W hv (by rw [hs]; omega) h1 h2 (hTab.later hb hg) (Nat.lt_of_lt_of_le hg hb.size)
  have HO : Bx (∀ W, w.heap[R]? = W.heap[R]? → Calls Tryd.prog 32 #[.pointer (some ⟨R, 0, none⟩)] W fun e w' => e = .returned (.agg (tkC c s)) ∧ Below W.heap.size W w') := Bx.mk fun W he => own_any c s R rest W hs (by rw [← he]; exact hr)
  have HTk : Bx (∀ W : World, Calls Tryd.prog 37 #[.agg (tkC c s)] W fun e w' => ∃ v', e = .returned v' ∧ KeyO w' W.heap.size v' s ∧ Below W.heap.size W w') := Bx.mk fun W => tkey_any c s W hs
  generalize tkC c s = kk at *
  generalize senK s n = ks at *
  clear hr hs h1 h2 hTab hg
  go_enter Tryd.func24, Tryd.ntmps24
  go_wp2_with fail
  refine (HO.out w rfl).mono ?_
  rintro e w1 ⟨rfl, hb1⟩
  go_wp2_with fail
  refine (HTk.out w1).mono ?_
  rintro e w2 ⟨v2, rfl, hk2, hb2⟩
  have H2 := Bx.mk (And.intro (hb1.trans (hb2.mono hb1.size)) hk2.key)
  clear hb1 hb2 hk2
  obtain ⟨p2, s2, hv2, -, -⟩ := H2.out.2
  subst hv2
  go_wp2_with fail
  refine (HS.out w2 _ H2.out.1 H2.out.2).mono ?_
  rintro e w3 ⟨v3, rfl, hk3, hb3⟩
  have H3 := Bx.mk (And.intro (hk3.weak H2.out.1.size) (H2.out.1.trans (hb3.mono H2.out.1.size)))
  clear hk3 hb3 H2
  go_wp2
  go_ret2
  exact ⟨_, rfl, H3.out⟩
set_option maxRecDepth 100000 in
theorem rseed_nil (n : Int) (w : World) : Calls Tryd.prog 25 #[.pointer none, .int .i64 n] w fun e w' => e = .returned (.tuple #[.pointer none, .int .i64 11]) ∧ w = w' := by
  go_enter Tryd.func25, Tryd.ntmps25
  go_wp2
  go_ret2
  exact ⟨rfl, rfl⟩
set_option maxRecDepth 100000 in
theorem rseed_bad (c : Cl) (s : List UInt8) (R : Nat) (rest : List Value) (w : World) (hs : s.length = 32) (hr : w.heap[R]? = some (.cells (rgC (tkC c s).toList rest) 85 (0, 0))) (n : Int) (h : n < 0 ∨ 4 ≤ n) :
    Calls Tryd.prog 25 #[.pointer (some ⟨R, 0, none⟩), .int .i64 n] w fun e w' => e = .returned (.tuple #[.pointer none, .int .i64 10]) ∧ Below w.heap.size w w' := by
  have HS := Bx.mk fun (W : World) (p : Nat) => see_bad p n W h
  have HO : Bx (∀ W, w.heap[R]? = W.heap[R]? → Calls Tryd.prog 32 #[.pointer (some ⟨R, 0, none⟩)] W fun e w' => e = .returned (.agg (tkC c s)) ∧ Below W.heap.size W w') := Bx.mk fun W he => own_any c s R rest W hs (by rw [← he]; exact hr)
  have HTk : Bx (∀ W : World, Calls Tryd.prog 37 #[.agg (tkC c s)] W fun e w' => ∃ v', e = .returned v' ∧ KeyO w' W.heap.size v' s ∧ Below W.heap.size W w') := Bx.mk fun W => tkey_any c s W hs
  generalize tkC c s = kk at *
  
  clear hr hs h
  go_enter Tryd.func25, Tryd.ntmps25
  go_wp2_with fail
  refine (HO.out w rfl).mono ?_
  rintro e w1 ⟨rfl, hb1⟩
  go_wp2_with fail
  refine (HTk.out w1).mono ?_
  rintro e w2 ⟨v2, rfl, hk2, hb2⟩
  have H2 := Bx.mk (And.intro (hb1.trans (hb2.mono hb1.size)) hk2.key)
  clear hb1 hb2 hk2
  obtain ⟨p2, s2, hv2, -, -⟩ := H2.out.2
  subst hv2
  go_wp2_with fail
  refine (HS.out w2 p2).mono ?_
  rintro e w5 ⟨rfl, rfl⟩
  go_wp2
  go_ret2
  exact ⟨rfl, H2.out.1⟩
set_option maxRecDepth 100000 in
theorem rseed_ok (c : Cl) (s : List UInt8) (R : Nat) (rest : List Value) (n : Nat) (w : World) (hs : s.length = 32) (hr : w.heap[R]? = some (.cells (rgC (tkC c s).toList rest) 85 (0, 0))) (hn : n < 4) (hTab : Tab w) (hg : 0 < w.heap.size) :
    Calls Tryd.prog 25 #[.pointer (some ⟨R, 0, none⟩), .int .i64 (n : Int)] w fun e w' => ∃ v', e = .returned (.tuple #[v', .int .i64 0]) ∧ KeyO w' w.heap.size v' (numK s seeL n) ∧ Below w.heap.size w w' := by
  have HS : Bx (∀ W vk, Below w.heap.size w W → IsKey W vk s → Calls Tryd.prog 20 #[vk, .int .i64 (n : Int)] W fun e w' => ∃ v', e = .returned (.tuple #[v', .int .i64 0]) ∧ KeyO w' W.heap.size v' (numK s seeL n) ∧ Below W.heap.size W w') := Bx.mk fun W vk hb hv => see_ok s n vk W hv (by rw [hs]; omega) hn (hTab.later hb hg) (Nat.lt_of_lt_of_le hg hb.size)
  have HO : Bx (∀ W, w.heap[R]? = W.heap[R]? → Calls Tryd.prog 32 #[.pointer (some ⟨R, 0, none⟩)] W fun e w' => e = .returned (.agg (tkC c s)) ∧ Below W.heap.size W w') := Bx.mk fun W he => own_any c s R rest W hs (by rw [← he]; exact hr)
  have HTk : Bx (∀ W : World, Calls Tryd.prog 37 #[.agg (tkC c s)] W fun e w' => ∃ v', e = .returned v' ∧ KeyO w' W.heap.size v' s ∧ Below W.heap.size W w') := Bx.mk fun W => tkey_any c s W hs
  generalize tkC c s = kk at *
  generalize numK s seeL n = ks at *
  clear hr hs hn hTab hg
  go_enter Tryd.func25, Tryd.ntmps25
  go_wp2_with fail
  refine (HO.out w rfl).mono ?_
  rintro e w1 ⟨rfl, hb1⟩
  go_wp2_with fail
  refine (HTk.out w1).mono ?_
  rintro e w2 ⟨v2, rfl, hk2, hb2⟩
  have H2 := Bx.mk (And.intro (hb1.trans (hb2.mono hb1.size)) hk2.key)
  clear hb1 hb2 hk2
  obtain ⟨p2, s2, hv2, -, -⟩ := H2.out.2
  subst hv2
  go_wp2_with fail
  refine (HS.out w2 _ H2.out.1 H2.out.2).mono ?_
  rintro e w3 ⟨v3, rfl, hk3, hb3⟩
  have H3 := Bx.mk (And.intro (hk3.weak H2.out.1.size) (H2.out.1.trans (hb3.mono H2.out.1.size)))
  clear hk3 hb3 H2
  go_wp2
  go_ret2
  exact ⟨_, rfl, H3.out⟩
set_option maxRecDepth 100000 in
theorem ring_from_nil (c : Cl) (w : World) : Calls Tryd.prog 26 #[.pointer none, clV c] w fun e w' => e = .returned (.tuple #[.pointer none, .int .i64 11]) ∧ Below w.heap.size w w' := by
  obtain ⟨i, r, x, q⟩ := c
  unfold clV
  simp only
  have HB := Bx.mk (below_a (W := w) (.cells #[.int .i64 i, .int .i64 r, .int .i64 x, .int .i64 q] 37))
  go_enter Tryd.func26, Tryd.ntmps26
  go_wp2
  go_ret2
  exact ⟨rfl, HB.out⟩
set_option maxRecDepth 100000 in
theorem ring_label_nil (n : Int) (w : World) : Calls Tryd.prog 27 #[.pointer none, .int .i64 n] w fun e w' => e = .returned (.tuple #[.pointer none, .int .i64 11]) ∧ Below w.heap.size w w' := by
  go_enter Tryd.func27, Tryd.ntmps27
  go_wp2
  go_ret2
  exact ⟨rfl, Below.refl _ _⟩
set_option maxRecDepth 100000 in
theorem ring_add_nil (c : Cl) (v : Value) (w : World) : Calls Tryd.prog 28 #[.pointer none, clV c, v] w fun e w' => e = .returned (.int .i64 11) ∧ Below w.heap.size w w' := by
  obtain ⟨i, r, x, q⟩ := c
  unfold clV
  simp only
  have HB := Bx.mk (below_a (W := w) (.cells #[.int .i64 i, .int .i64 r, .int .i64 x, .int .i64 q] 37))
  go_enter Tryd.func28, Tryd.ntmps28
  go_wp2
  go_ret
  exact ⟨rfl, HB.out⟩
set_option maxRecDepth 100000 in
theorem ring_learn_nil (n : Int) (v : Value) (w : World) : Calls Tryd.prog 29 #[.pointer none, .int .i64 n, v] w fun e w' => e = .returned (.int .i64 11) ∧ Below w.heap.size w w' := by
  go_enter Tryd.func29, Tryd.ntmps29
  go_wp2
  go_ret
  exact ⟨rfl, Below.refl _ _⟩
set_option maxRecDepth 100000 in
theorem ring_drop_nil (v : Value) (w : World) : Calls Tryd.prog 30 #[.pointer none, v] w fun e w' => e = .returned (.int .i64 0) ∧ Below w.heap.size w w' := by
  go_enter Tryd.func30, Tryd.ntmps30
  go_wp2
  go_step3
  go_wp2
  rw [Exit.noGoto_ret]
  go_ret
  exact ⟨rfl, Below.refl _ _⟩
set_option maxRecDepth 100000 in
theorem ring_known_nil (w : World) : Calls Tryd.prog 31 #[.pointer none] w fun e w' => e = .returned (.slice none 0 0) ∧ Below w.heap.size w w' := by
  go_enter Tryd.func31, Tryd.ntmps31
  go_wp2
  refine bodyPost_ret (results_tmp (fn := Tryd.f31) (t := 2) rfl _ _ _) rfl ?_
  exact ⟨rfl, Below.refl _ _⟩
end Go.Proofs.YtdionedinmkeiaaDoor
