/-
  Rings: New, Own, To; a nil ring; tokens of the statements.
-/
import Derived.Test.YtnefpjdjnjcmbaaGreatDoorYc
import Derived.Test.YtnefpjdjnjcmbaaGreatDoorCb
import Derived.LoopN
namespace Go.Proofs.YtnefpjdjnjcmbaaGreatDoor
open Go Go.RowKit
/-- What a new ring holds behind its token. -/
def rg0 : List Value := [.map none, .pointer none, .pointer none, .pointer none, .pointer none, .pointer none, .pointer none, .pointer none, .pointer none]
/-- A ring's cells: its token's, and the others. -/
def rgC (tk : List Value) (rest : List Value) : Array Value := (tk ++ rest).toArray
theorem list36 {α : Type} (l : List α) (h : l.length = 36) : ∃ v0 v1 v2 v3 v4 v5 v6 v7 v8 v9 v10 v11 v12 v13 v14 v15 v16 v17 v18 v19 v20 v21 v22 v23 v24 v25 v26 v27 v28 v29 v30 v31 v32 v33 v34 v35 : α, l = [v0, v1, v2, v3, v4, v5, v6, v7, v8, v9, v10, v11, v12, v13, v14, v15, v16, v17, v18, v19, v20, v21, v22, v23, v24, v25, v26, v27, v28, v29, v30, v31, v32, v33, v34, v35] := by
  match l, h with
  | v0 :: v1 :: v2 :: v3 :: v4 :: v5 :: v6 :: v7 :: v8 :: v9 :: v10 :: v11 :: v12 :: v13 :: v14 :: v15 :: v16 :: v17 :: v18 :: v19 :: v20 :: v21 :: v22 :: v23 :: v24 :: v25 :: v26 :: v27 :: v28 :: v29 :: v30 :: v31 :: v32 :: v33 :: v34 :: v35 :: [], _ => exact ⟨_, _, _, _, _, _, _, _, _, _, _, _, _, _, _, _, _, _, _, _, _, _, _, _, _, _, _, _, _, _, _, _, _, _, _, _, rfl⟩
set_option maxRecDepth 100000 in
theorem rg_built36 (v0 v1 v2 v3 v4 v5 v6 v7 v8 v9 v10 v11 v12 v13 v14 v15 v16 v17 v18 v19 v20 v21 v22 v23 v24 v25 v26 v27 v28 v29 v30 v31 v32 v33 v34 v35 : Value) : Tryz.prog.built 73 [(0, .agg #[v0, v1, v2, v3, v4, v5, v6, v7, v8, v9, v10, v11, v12, v13, v14, v15, v16, v17, v18, v19, v20, v21, v22, v23, v24, v25, v26, v27, v28, v29, v30, v31, v32, v33, v34, v35])] = some (rgC [v0, v1, v2, v3, v4, v5, v6, v7, v8, v9, v10, v11, v12, v13, v14, v15, v16, v17, v18, v19, v20, v21, v22, v23, v24, v25, v26, v27, v28, v29, v30, v31, v32, v33, v34, v35] rg0) := by kernel_rfl
theorem rg_built (kl : List Value) (h : kl.length = 36) : Tryz.prog.built 73 [(0, .agg kl.toArray)] = some (rgC kl rg0) := by
  obtain ⟨v0, v1, v2, v3, v4, v5, v6, v7, v8, v9, v10, v11, v12, v13, v14, v15, v16, v17, v18, v19, v20, v21, v22, v23, v24, v25, v26, v27, v28, v29, v30, v31, v32, v33, v34, v35, rfl⟩ := list36 kl h
  exact rg_built36 v0 v1 v2 v3 v4 v5 v6 v7 v8 v9 v10 v11 v12 v13 v14 v15 v16 v17 v18 v19 v20 v21 v22 v23 v24 v25 v26 v27 v28 v29 v30 v31 v32 v33 v34 v35
theorem rg_range {W : World} {R : Nat} {kl rest : List Value} {t : TypeId} (h : W.heap[R]? = some (.cells (rgC kl rest) t (0, 0))) : W.rangeAt R 0 kl := by
  intro j u hj
  show W.cell? ⟨R, 0 + j, none⟩ = some u
  rw [cell_of_row _ _ _ _ _ _ h, Nat.zero_add]
  have hl := (List.getElem?_eq_some_iff.1 hj).1
  unfold rgC
  rw [List.getElem?_toArray, List.getElem?_append_left hl]
  exact hj
set_option maxRecDepth 100000 in
set_option maxHeartbeats 1000000 in
theorem ring_new (c : Cl) (s : List UInt8) (w : World) (hs : s.length = 32) : Calls Tryz.prog 6 #[tkV c s] w fun e w' =>
    (okC c = false → e = .returned (.tuple #[.pointer none, .int .i64 10])) ∧ (okC c = true → ∃ R, e = .returned (.tuple #[.pointer (some ⟨R, 0, none⟩), .int .i64 0]) ∧ w.heap.size ≤ R ∧ w'.heap[R]? = some (.cells (rgC (tkC c s).toList rg0) 73 (0, 0))) ∧ Below w.heap.size w w' := by
  obtain ⟨kl, hkl⟩ : ∃ kl : List Value, tkC c s = kl.toArray := ⟨_, rfl⟩
  have HK := Bx.mk hkl
  have HL : Bx (kl.length = 36) := Bx.mk (by rw [show kl.length = kl.toArray.size from rfl, ← hkl, tkC_size _ _ hs])
  have HC4 : Bx (∀ (W : World) (D : Nat) (t : TypeId), W.heap[D]? = some (.cells kl.toArray t (0, 0)) → W.rangeAt D 0 (clC c).toList) := Bx.mk fun W D t h => by rw [← hkl] at h; exact tk_cl h
  have HI : Bx ((Tryz.prog.info? 29).map (·.size) = some kl.length) := Bx.mk (by rw [HL.out]; kernel_rfl)
  have HB := Bx.mk (rg_built kl HL.out)
  have HCk : Bx (∀ W : World, Calls Tryz.prog 30 #[.agg (clC c)] W fun e w' => e = .returned (.int .i64 (if okC c = true then 0 else 10)) ∧ Below W.heap.size W w') := Bx.mk fun W => ccheck_any c W
  unfold tkV
  rw [hkl]
  obtain ⟨ck, hck⟩ : ∃ ck : List Value, (clC c).toList = ck := ⟨_, rfl⟩
  have HX : Bx (clC c = ck.toArray ∧ (Tryz.prog.info? 26).map (·.size) = some ck.length) := Bx.mk ⟨by rw [← hck], by rw [← hck]; kernel_rfl⟩
  rw [hck] at HC4
  rw [HX.out.1] at HCk
  have HX2 := Bx.mk HX.out.2
  clear hkl hck hs HX
  obtain ⟨B, hB⟩ : ∃ B, w.heap.size = B := ⟨_, rfl⟩
  have H0 := Bx.mk ((KS.start w B hB).new (.cells kl.toArray 29))
  obtain ⟨rr, hrr⟩ : ∃ rr, rgC kl rg0 = rr := ⟨_, rfl⟩
  have HR := Bx.mk hrr
  rw [hrr] at HB
  rw [List.toList_toArray, hrr]
  clear hrr
  rw [hB] at H0 ⊢
  cases hc : okC c
  · rw [hc, if_neg (by decide)] at HCk
    clear hc
    go_enter Tryz.func6, Tryz.ntmps6
    go_upto_region 1 with fail
    generalize w.alloc (.cells kl.toArray 29) = w0 at *
    go_wp2_with (refine wpList_load_mid rfl 26 _ rfl B 0 (by rfl) ck _ (HC4.out _ _ _ (H0.out.rows _ (.head _))) Tryz.underlying26 rfl HX2.out ?_)
    refine (HCk.out w0).mono ?_
    rintro e w1 ⟨rfl, hb⟩
    have H1 := Bx.mk (H0.out.later hb)
    clear hb H0
    go_wp2
    go_ret2
    exact ⟨fun _ => rfl, (fun h => by cases h), H1.out.below⟩
  · rw [hc, if_pos rfl] at HCk
    clear hc
    go_enter Tryz.func6, Tryz.ntmps6
    go_upto_region 1 with fail
    generalize w.alloc (.cells kl.toArray 29) = w0 at *
    go_wp2_with (refine wpList_load_mid rfl 26 _ rfl B 0 (by rfl) ck _ (HC4.out _ _ _ (H0.out.rows _ (.head _))) Tryz.underlying26 rfl HX2.out ?_)
    refine (HCk.out w0).mono ?_
    rintro e w1 ⟨rfl, hb⟩
    have H1 := Bx.mk (H0.out.later hb)
    clear hb H0
    go_upto_region 4 with fail
    go_wp2_with (first | (refine wpList_load_mid rfl 29 _ rfl B 0 (by rfl) kl _ (row_rng (H1.out.rows _ (.head _))) Tryz.underlying29 rfl HI.out ?_) | (refine wpList_buildTo rfl 73 _ rfl _ rfl rr (by simp only [List.map_toArray, List.map_cons, List.map_nil]; exact HB.out) ?_))
    have H2 := Bx.mk (H1.out.new (.cells rr 73))
    go_ret2
    exact ⟨(fun h => by cases h), fun _ => ⟨_, rfl, H1.out.le, H2.out.rows _ (.head _)⟩, H2.out.below⟩
set_option maxRecDepth 100000 in
set_option maxHeartbeats 1000000 in
theorem own_any (c : Cl) (s : List UInt8) (R : Nat) (rest : List Value) (w : World) (hs : s.length = 32) (hr : w.heap[R]? = some (.cells (rgC (tkC c s).toList rest) 73 (0, 0))) :
    Calls Tryz.prog 7 #[.pointer (some ⟨R, 0, none⟩)] w fun e w' => e = .returned (tkV c s) ∧ Below w.heap.size w w' := by
  obtain ⟨zc, hzc⟩ : ∃ zc, tkC c0 z32 = zc := ⟨_, rfl⟩
  have hzv : ∀ W : World, (zeroValue 29).run Tryz.prog W = .ok (.agg zc) W := fun W => by rw [← hzc]; exact tk_zero W
  obtain ⟨kl, hkl⟩ : ∃ kl : List Value, tkC c s = kl.toArray := ⟨_, rfl⟩
  have HI : Bx ((Tryz.prog.info? 29).map (·.size) = some kl.toArray.size ∧ kl.toArray.all (·.oneCell') = true ∧ kl.toArray.size = zc.size ∧ (Tryz.prog.info? 69).map (·.size) = some kl.length) := Bx.mk (by rw [show kl.length = kl.toArray.size from rfl, ← hkl, ← hzc]; exact ⟨tk_info _ _ hs, tkC_one _ _, by rw [tkC_size _ _ hs, tkC_size _ _ rfl], by rw [tkC_size _ _ hs]; kernel_rfl⟩)
  unfold tkV
  rw [hkl] at hr ⊢
  rw [List.toList_toArray] at hr
  have HG := rg_range hr
  clear hzc hkl hs
  obtain ⟨B, hB⟩ : ∃ B, w.heap.size = B := ⟨_, rfl⟩
  have H0 := Bx.mk (And.intro ((KS.start w B hB).new (.cells zc 29)) (rg_range (show (w.alloc (.cells zc 29)).heap[R]? = _ by rw [hold _ _ _ (Array.getElem?_eq_some_iff.1 hr).1]; exact hr)))
  clear HG hr
  rw [hB] at H0 ⊢
  go_enter Tryz.func7, Tryz.ntmps7
  go_upto_region 3 with fail
  generalize w.alloc (.cells zc 29) = w0 at *
  go_wp2_with (first | (refine wpList_load_mid rfl 69 _ rfl R 0 (by rfl) kl _ H0.out.2 Tryz.underlying69 rfl HI.out.2.2.2 ?_) | (refine wpList_store_new rfl 29 _ _ rfl B kl.toArray zc _ (by rfl) (by rfl) (H0.out.1.rows _ (.head _)) HI.out.2.2.1 HI.out.1 HI.out.2.1 ?_; intro w8 hw8 hr8; have hg8 := Bx.mk (kb_of hw8); have HR8 := Bx.mk hr8; clear hw8 hr8))
  refine bodyPost_ret (results_cell_row rfl _ _ B _ kl.toArray _ _ rfl HR8.out Tryz.underlying29 rfl HI.out.1) rfl ?_
  exact ⟨rfl, H0.out.1.below.trans (grown_below hg8.out (by omega) H0.out.1.le)⟩
set_option maxRecDepth 100000 in
theorem to_bad (c : Cl) (s : List UInt8) (R : Nat) (rest : List Value) (w : World) (hs : s.length = 32) (hr : w.heap[R]? = some (.cells (rgC (tkC c s).toList rest) 73 (0, 0))) (n : Int) (h : n < 1 ∨ 65535 < n) :
    Calls Tryz.prog 23 #[.pointer (some ⟨R, 0, none⟩), .int .i64 n] w fun e w' => e = .returned (.tuple #[.pointer none, .int .i64 10]) ∧ Below w.heap.size w w' := by
  have HS := Bx.mk fun (W : World) (p : Nat) => sen_bad p n W h
  have HO : Bx (∀ W, w.heap[R]? = W.heap[R]? → Calls Tryz.prog 7 #[.pointer (some ⟨R, 0, none⟩)] W fun e w' => e = .returned (.agg (tkC c s)) ∧ Below W.heap.size W w') := Bx.mk fun W he => own_any c s R rest W hs (by rw [← he]; exact hr)
  have HTk : Bx (∀ W : World, Calls Tryz.prog 25 #[.agg (tkC c s)] W fun e w' => ∃ v', e = .returned v' ∧ KeyO w' W.heap.size v' s ∧ Below W.heap.size W w') := Bx.mk fun W => tkey_any c s W hs
  generalize tkC c s = kk at *
  
  clear hr hs h
  go_enter Tryz.func23, Tryz.ntmps23
  go_wp2_with fail
  refine (HO.out w rfl).mono ?_
  rintro e w1 ⟨rfl, hb1⟩
  go_wp2_with fail
  refine (HTk.out w1).mono ?_
  rintro e w2 ⟨v2, rfl, hk2, hb2⟩
  have H2 := Bx.mk (And.intro (hb1.trans (hb2.mono hb1.size)) hk2.key)
  clear hb1 hb2 hk2
  obtain ⟨p2, s2, hv2, -, -⟩ := H2.out.2
  subst hv2
  go_wp2_with fail
  refine (HS.out w2 p2).mono ?_
  rintro e w5 ⟨rfl, rfl⟩
  go_wp2
  go_ret2
  exact ⟨rfl, H2.out.1⟩
set_option maxRecDepth 100000 in
theorem to_ok (c : Cl) (s : List UInt8) (R : Nat) (rest : List Value) (n : Nat) (w : World) (hs : s.length = 32) (hr : w.heap[R]? = some (.cells (rgC (tkC c s).toList rest) 73 (0, 0))) (h1 : 1 ≤ n) (h2 : n ≤ 65535) (hTab : Tab w) (hg : 0 < w.heap.size) :
    Calls Tryz.prog 23 #[.pointer (some ⟨R, 0, none⟩), .int .i64 (n : Int)] w fun e w' => ∃ v', e = .returned (.tuple #[v', .int .i64 0]) ∧ KeyO w' w.heap.size v' (senK s n) ∧ Below w.heap.size w w' := by
  have HS : Bx (∀ W vk, Below w.heap.size w W → IsKey W vk s → Calls Tryz.prog 24 #[vk, .int .i64 (n : Int)] W fun e w' => ∃ v', e = .returned (.tuple #[v', .int .i64 0]) ∧ KeyO w' W.heap.size v' (senK s n) ∧ Below W.heap.size W w') := Bx.mk fun W vk hb hv => sen_ok s n vk W hv (by rw [hs]; omega) h1 h2 (hTab.later hb hg) (Nat.lt_of_lt_of_le hg hb.size)
  have HO : Bx (∀ W, w.heap[R]? = W.heap[R]? → Calls Tryz.prog 7 #[.pointer (some ⟨R, 0, none⟩)] W fun e w' => e = .returned (.agg (tkC c s)) ∧ Below W.heap.size W w') := Bx.mk fun W he => own_any c s R rest W hs (by rw [← he]; exact hr)
  have HTk : Bx (∀ W : World, Calls Tryz.prog 25 #[.agg (tkC c s)] W fun e w' => ∃ v', e = .returned v' ∧ KeyO w' W.heap.size v' s ∧ Below W.heap.size W w') := Bx.mk fun W => tkey_any c s W hs
  generalize tkC c s = kk at *
  generalize senK s n = ks at *
  clear hr hs h1 h2 hTab hg
  go_enter Tryz.func23, Tryz.ntmps23
  go_wp2_with fail
  refine (HO.out w rfl).mono ?_
  rintro e w1 ⟨rfl, hb1⟩
  go_wp2_with fail
  refine (HTk.out w1).mono ?_
  rintro e w2 ⟨v2, rfl, hk2, hb2⟩
  have H2 := Bx.mk (And.intro (hb1.trans (hb2.mono hb1.size)) hk2.key)
  clear hb1 hb2 hk2
  obtain ⟨p2, s2, hv2, -, -⟩ := H2.out.2
  subst hv2
  go_wp2_with fail
  refine (HS.out w2 _ H2.out.1 H2.out.2).mono ?_
  rintro e w3 ⟨v3, rfl, hk3, hb3⟩
  have H3 := Bx.mk (And.intro (hk3.weak H2.out.1.size) (H2.out.1.trans (hb3.mono H2.out.1.size)))
  clear hk3 hb3 H2
  go_wp2
  go_ret2
  exact ⟨_, rfl, H3.out⟩
set_option maxRecDepth 100000 in
theorem rseed_bad (c : Cl) (s : List UInt8) (R : Nat) (rest : List Value) (w : World) (hs : s.length = 32) (hr : w.heap[R]? = some (.cells (rgC (tkC c s).toList rest) 73 (0, 0))) (n : Int) (h : n < 0 ∨ 4 ≤ n) :
    Calls Tryz.prog 26 #[.pointer (some ⟨R, 0, none⟩), .int .i64 n] w fun e w' => e = .returned (.tuple #[.pointer none, .int .i64 10]) ∧ Below w.heap.size w w' := by
  have HS := Bx.mk fun (W : World) (p : Nat) => see_bad p n W h
  have HO : Bx (∀ W, w.heap[R]? = W.heap[R]? → Calls Tryz.prog 7 #[.pointer (some ⟨R, 0, none⟩)] W fun e w' => e = .returned (.agg (tkC c s)) ∧ Below W.heap.size W w') := Bx.mk fun W he => own_any c s R rest W hs (by rw [← he]; exact hr)
  have HTk : Bx (∀ W : World, Calls Tryz.prog 25 #[.agg (tkC c s)] W fun e w' => ∃ v', e = .returned v' ∧ KeyO w' W.heap.size v' s ∧ Below W.heap.size W w') := Bx.mk fun W => tkey_any c s W hs
  generalize tkC c s = kk at *
  
  clear hr hs h
  go_enter Tryz.func26, Tryz.ntmps26
  go_wp2_with fail
  refine (HO.out w rfl).mono ?_
  rintro e w1 ⟨rfl, hb1⟩
  go_wp2_with fail
  refine (HTk.out w1).mono ?_
  rintro e w2 ⟨v2, rfl, hk2, hb2⟩
  have H2 := Bx.mk (And.intro (hb1.trans (hb2.mono hb1.size)) hk2.key)
  clear hb1 hb2 hk2
  obtain ⟨p2, s2, hv2, -, -⟩ := H2.out.2
  subst hv2
  go_wp2_with fail
  refine (HS.out w2 p2).mono ?_
  rintro e w5 ⟨rfl, rfl⟩
  go_wp2
  go_ret2
  exact ⟨rfl, H2.out.1⟩
set_option maxRecDepth 100000 in
theorem rseed_ok (c : Cl) (s : List UInt8) (R : Nat) (rest : List Value) (n : Nat) (w : World) (hs : s.length = 32) (hr : w.heap[R]? = some (.cells (rgC (tkC c s).toList rest) 73 (0, 0))) (hn : n < 4) (hTab : Tab w) (hg : 0 < w.heap.size) :
    Calls Tryz.prog 26 #[.pointer (some ⟨R, 0, none⟩), .int .i64 (n : Int)] w fun e w' => ∃ v', e = .returned (.tuple #[v', .int .i64 0]) ∧ KeyO w' w.heap.size v' (numK s seeL n) ∧ Below w.heap.size w w' := by
  have HS : Bx (∀ W vk, Below w.heap.size w W → IsKey W vk s → Calls Tryz.prog 27 #[vk, .int .i64 (n : Int)] W fun e w' => ∃ v', e = .returned (.tuple #[v', .int .i64 0]) ∧ KeyO w' W.heap.size v' (numK s seeL n) ∧ Below W.heap.size W w') := Bx.mk fun W vk hb hv => see_ok s n vk W hv (by rw [hs]; omega) hn (hTab.later hb hg) (Nat.lt_of_lt_of_le hg hb.size)
  have HO : Bx (∀ W, w.heap[R]? = W.heap[R]? → Calls Tryz.prog 7 #[.pointer (some ⟨R, 0, none⟩)] W fun e w' => e = .returned (.agg (tkC c s)) ∧ Below W.heap.size W w') := Bx.mk fun W he => own_any c s R rest W hs (by rw [← he]; exact hr)
  have HTk : Bx (∀ W : World, Calls Tryz.prog 25 #[.agg (tkC c s)] W fun e w' => ∃ v', e = .returned v' ∧ KeyO w' W.heap.size v' s ∧ Below W.heap.size W w') := Bx.mk fun W => tkey_any c s W hs
  generalize tkC c s = kk at *
  generalize numK s seeL n = ks at *
  clear hr hs hn hTab hg
  go_enter Tryz.func26, Tryz.ntmps26
  go_wp2_with fail
  refine (HO.out w rfl).mono ?_
  rintro e w1 ⟨rfl, hb1⟩
  go_wp2_with fail
  refine (HTk.out w1).mono ?_
  rintro e w2 ⟨v2, rfl, hk2, hb2⟩
  have H2 := Bx.mk (And.intro (hb1.trans (hb2.mono hb1.size)) hk2.key)
  clear hb1 hb2 hk2
  obtain ⟨p2, s2, hv2, -, -⟩ := H2.out.2
  subst hv2
  go_wp2_with fail
  refine (HS.out w2 _ H2.out.1 H2.out.2).mono ?_
  rintro e w3 ⟨v3, rfl, hk3, hb3⟩
  have H3 := Bx.mk (And.intro (hk3.weak H2.out.1.size) (H2.out.1.trans (hb3.mono H2.out.1.size)))
  clear hk3 hb3 H2
  go_wp2
  go_ret2
  exact ⟨_, rfl, H3.out⟩
end Go.Proofs.YtnefpjdjnjcmbaaGreatDoor
namespace Go.Proofs.YtnefpjdjnjcmbaaGreatDoor
open Go Go.RowKit
/-- Which of two numbers is the smaller. -/
def sg (x y : Int) : Int := if x < y then -1 else if y < x then 1 else 0
set_option maxRecDepth 100000 in
theorem cmp_any (x y : Int) (w : World) : Calls Tryz.prog 52 #[.int .i64 x, .int .i64 y] w fun e w' => e = .returned (.int .i64 (sg x y)) ∧ w' = w := by
  unfold sg
  by_cases h1 : x < y
  · rw [if_pos h1]
    go_enter Tryz.func52, Tryz.ntmps52
    go_wp2
    go_ret
    exact ⟨rfl, rfl⟩
  · rw [if_neg h1]
    by_cases h2 : y < x
    · rw [if_pos h2]
      go_enter Tryz.func52, Tryz.ntmps52
      go_wp2
      go_ret
      exact ⟨rfl, rfl⟩
    · rw [if_neg h2]
      go_enter Tryz.func52, Tryz.ntmps52
      go_wp2
      go_ret
      exact ⟨rfl, rfl⟩
/-- The first of four numbers that is not 0. -/
def or4 (a b c d : Int) : Int := if a ≠ 0 then a else if b ≠ 0 then b else if c ≠ 0 then c else d
set_option maxRecDepth 100000 in
set_option maxHeartbeats 1000000 in
theorem or_any (a b c d : Int) (g : Nat) (w : World) (h : w.heap[g]? = some (.cells #[.int .i64 a, .int .i64 b, .int .i64 c, .int .i64 d] 3 (0, 0))) :
    Calls Tryz.prog 51 #[.slice (some ⟨g, 0, none⟩) 4 4] w fun e w' => e = .returned (.int .i64 (or4 a b c d)) ∧ w' = w := by
  have k0 : w.cell? ⟨g, 0, none⟩ = some (.int .i64 a) := by rw [cell_of_row _ _ _ _ _ _ h]; rfl
  have k1 : w.cell? ⟨g, 1, none⟩ = some (.int .i64 b) := by rw [cell_of_row _ _ _ _ _ _ h]; rfl
  have k2 : w.cell? ⟨g, 2, none⟩ = some (.int .i64 c) := by rw [cell_of_row _ _ _ _ _ _ h]; rfl
  have k3 : w.cell? ⟨g, 3, none⟩ = some (.int .i64 d) := by rw [cell_of_row _ _ _ _ _ _ h]; rfl
  clear h
  obtain ⟨V, hV⟩ : ∃ V, or4 a b c d = V := ⟨_, rfl⟩
  rw [hV]
  have HV := Bx.mk hV
  clear hV
  go_enter Tryz.func51, Tryz.ntmps51
  go_wp2
  refine wp_loop_rounds 5 ?_
  rw [rounds_succ]
  by_cases h0 : ¬ a = 0
  · have hb0 : (a != 0) = true := by simp [h0]
    have HE : Bx (V = a) := Bx.mk (by rw [← HV.out]; unfold or4; simp [h0])
    clear HV
    go_wp2
    go_ret
    exact ⟨by rw [HE.out]; rfl, rfl⟩
  obtain rfl : a = 0 := Decidable.not_not.mp h0
  clear h0
  go_wp2
  rw [rounds_succ]
  by_cases h1 : ¬ b = 0
  · have hb1 : (b != 0) = true := by simp [h1]
    have HE : Bx (V = b) := Bx.mk (by rw [← HV.out]; unfold or4; simp [h1])
    clear HV
    go_wp2
    go_ret
    exact ⟨by rw [HE.out]; rfl, rfl⟩
  obtain rfl : b = 0 := Decidable.not_not.mp h1
  clear h1
  go_wp2
  rw [rounds_succ]
  by_cases h2 : ¬ c = 0
  · have hb2 : (c != 0) = true := by simp [h2]
    have HE : Bx (V = c) := Bx.mk (by rw [← HV.out]; unfold or4; simp [h2])
    clear HV
    go_wp2
    go_ret
    exact ⟨by rw [HE.out]; rfl, rfl⟩
  obtain rfl : c = 0 := Decidable.not_not.mp h2
  clear h2
  go_wp2
  rw [rounds_succ]
  by_cases h3 : ¬ d = 0
  · have hb3 : (d != 0) = true := by simp [h3]
    have HE : Bx (V = d) := Bx.mk (by rw [← HV.out]; unfold or4; simp [h3])
    clear HV
    go_wp2
    go_ret
    exact ⟨by rw [HE.out]; rfl, rfl⟩
  obtain rfl : d = 0 := Decidable.not_not.mp h3
  clear h3
  go_wp2
  rw [rounds_succ]
  go_wp2
  go_ret
  exact ⟨by rw [← HV.out]; rfl, rfl⟩
/-- The order of claims. -/
def cmpC (a b : Cl) : Int := or4 (sg a.se b.se) (sg a.id b.id) (sg a.ex b.ex) (sg a.ro b.ro)
/-- What stays while two claims are compared. -/
structure CS (w : World) (B : Nat) (a b : Cl) (W : World) : Prop where
  one : W.heap[B]? = some (.cells (clC a) 26 (0, 0))
  two : W.heap[B + 1]? = some (.cells (clC b) 26 (0, 0))
  below : Below B w W
  dr : w.drawn ≤ W.drawn
theorem CS.later {w : World} {B : Nat} {a b : Cl} {W W1 : World} (h : CS w B a b W) (hb : Below W.heap.size W W1) (hd : W.drawn ≤ W1.drawn) : CS w B a b W1 :=
  have h0 : B + 1 < W.heap.size := (Array.getElem?_eq_some_iff.1 h.two).1
  ⟨by rw [hb.block B (by omega)]; exact h.one, by rw [hb.block (B + 1) h0]; exact h.two, h.below.trans (hb.mono (by omega)), Nat.le_trans h.dr hd⟩
theorem CS.x0 {w : World} {B : Nat} {a0 a1 a2 a3 : Int} {b : Cl} {W : World} (h : CS w B ⟨a0, a1, a2, a3⟩ b W) : W.cell? ⟨B, 0, none⟩ = some (.int .i64 a0) := by rw [cell_of_row _ _ _ _ _ _ h.one]; rfl
theorem CS.y0 {w : World} {B : Nat} {b0 b1 b2 b3 : Int} {a : Cl} {W : World} (h : CS w B a ⟨b0, b1, b2, b3⟩ W) : W.cell? ⟨B + 1, 0, none⟩ = some (.int .i64 b0) := by rw [cell_of_row _ _ _ _ _ _ h.two]; rfl
theorem CS.x1 {w : World} {B : Nat} {a0 a1 a2 a3 : Int} {b : Cl} {W : World} (h : CS w B ⟨a0, a1, a2, a3⟩ b W) : W.cell? ⟨B, 1, none⟩ = some (.int .i64 a1) := by rw [cell_of_row _ _ _ _ _ _ h.one]; rfl
theorem CS.y1 {w : World} {B : Nat} {b0 b1 b2 b3 : Int} {a : Cl} {W : World} (h : CS w B a ⟨b0, b1, b2, b3⟩ W) : W.cell? ⟨B + 1, 1, none⟩ = some (.int .i64 b1) := by rw [cell_of_row _ _ _ _ _ _ h.two]; rfl
theorem CS.x2 {w : World} {B : Nat} {a0 a1 a2 a3 : Int} {b : Cl} {W : World} (h : CS w B ⟨a0, a1, a2, a3⟩ b W) : W.cell? ⟨B, 2, none⟩ = some (.int .i64 a2) := by rw [cell_of_row _ _ _ _ _ _ h.one]; rfl
theorem CS.y2 {w : World} {B : Nat} {b0 b1 b2 b3 : Int} {a : Cl} {W : World} (h : CS w B a ⟨b0, b1, b2, b3⟩ W) : W.cell? ⟨B + 1, 2, none⟩ = some (.int .i64 b2) := by rw [cell_of_row _ _ _ _ _ _ h.two]; rfl
theorem CS.x3 {w : World} {B : Nat} {a0 a1 a2 a3 : Int} {b : Cl} {W : World} (h : CS w B ⟨a0, a1, a2, a3⟩ b W) : W.cell? ⟨B, 3, none⟩ = some (.int .i64 a3) := by rw [cell_of_row _ _ _ _ _ _ h.one]; rfl
theorem CS.y3 {w : World} {B : Nat} {b0 b1 b2 b3 : Int} {a : Cl} {W : World} (h : CS w B a ⟨b0, b1, b2, b3⟩ W) : W.cell? ⟨B + 1, 3, none⟩ = some (.int .i64 b3) := by rw [cell_of_row _ _ _ _ _ _ h.two]; rfl
/-- Are claims the same? -/
def sameC (a b : Cl) : Bool := decide (a.id = b.id) && decide (a.ro = b.ro) && decide (a.ex = b.ex) && decide (a.se = b.se)
theorem sameC_iff (a b : Cl) : sameC a b = true ↔ a = b := by
  obtain ⟨a0, a1, a2, a3⟩ := a
  obtain ⟨b0, b1, b2, b3⟩ := b
  simp [sameC, and_assoc]
theorem eqC (a0 a1 a2 a3 b0 b1 b2 b3 : Int) (W : World) : (binOp BinOp.eql 26 (.agg #[.int .i64 a0, .int .i64 a1, .int .i64 a2, .int .i64 a3]) (.agg #[.int .i64 b0, .int .i64 b1, .int .i64 b2, .int .i64 b3])).run Tryz.prog W = .ok (.bool (sameC ⟨a0, a1, a2, a3⟩ ⟨b0, b1, b2, b3⟩)) W := by
  go_simp
  unfold sameC
  simp only
  by_cases h0 : a0 = b0 <;> by_cases h1 : a1 = b1 <;> by_cases h2 : a2 = b2 <;> by_cases h3 : a3 = b3 <;> simp [h0, h1, h2, h3]
theorem cmpC_self (a : Cl) : cmpC a a = 0 := by simp [cmpC, sg, or4]
set_option maxRecDepth 100000 in
set_option maxHeartbeats 2000000 in
theorem compare_anyD (a b : Cl) (w : World) : Calls Tryz.prog 39 #[clV a, clV b] w fun e w' => e = .returned (.int .i64 (cmpC a b)) ∧ Below w.heap.size w w' ∧ w.drawn ≤ w'.drawn := by
  obtain ⟨B, hB⟩ : ∃ B, w.heap.size = B := ⟨_, rfl⟩
  rw [hB]
  have H0 : Bx (CS w B a b ((w.alloc (.cells (clC a) 26)).alloc (.cells (clC b) 26))) := Bx.mk ⟨by rw [hold _ _ _ (by simp; omega)]; exact hnew _ _ _ hB.symm, hnew _ _ _ (by simp; omega), by rw [← hB]; exact (below_a _).alloc (by simp) _, Nat.le_refl _⟩
  by_cases hab : sameC a b = true
  · have hq := (sameC_iff a b).mp hab
    subst hq
    rw [cmpC_self]
    obtain ⟨a0, a1, a2, a3⟩ := a
    have heq := fun W => eqC a0 a1 a2 a3 a0 a1 a2 a3 W
    rw [hab] at heq
    unfold clC at H0
    unfold clV
    simp only at H0 ⊢
    go_enter Tryz.func39, Tryz.ntmps39
    go_wp2
    go_ret
    exact ⟨rfl, H0.out.below, H0.out.dr⟩
  · have hab2 : sameC a b = false := by simpa using hab
    obtain ⟨a0, a1, a2, a3⟩ := a
    obtain ⟨b0, b1, b2, b3⟩ := b
    have heq := fun W => eqC a0 a1 a2 a3 b0 b1 b2 b3 W
    rw [hab2] at heq
    unfold clV cmpC
    have HC : Bx (CS w B ⟨a0, a1, a2, a3⟩ ⟨b0, b1, b2, b3⟩ ((w.alloc (.cells #[.int .i64 a0, .int .i64 a1, .int .i64 a2, .int .i64 a3] 26)).alloc (.cells #[.int .i64 b0, .int .i64 b1, .int .i64 b2, .int .i64 b3] 26)).drew) := Bx.mk (H0.out.later (Below.refl _ _).drew (Nat.le_succ _))
    simp only
    clear hab hab2 H0
    go_enter Tryz.func39, Tryz.ntmps39
    go_upto_region 3 with (fail)
    generalize (w.alloc (.cells #[.int .i64 a0, .int .i64 a1, .int .i64 a2, .int .i64 a3] 26)).alloc (.cells #[.int .i64 b0, .int .i64 b1, .int .i64 b2, .int .i64 b3] 26) = w1 at *
    clear heq
    refine wp_region_noPanic ?_
    refine wp_region_held_drew (S := fun W => W.cell? ⟨B, 0, none⟩ = some (.int .i64 a0) ∧ W.cell? ⟨B, 1, none⟩ = some (.int .i64 a1) ∧ W.cell? ⟨B, 2, none⟩ = some (.int .i64 a2) ∧ W.cell? ⟨B, 3, none⟩ = some (.int .i64 a3) ∧ W.cell? ⟨B + 1, 0, none⟩ = some (.int .i64 b0) ∧ W.cell? ⟨B + 1, 1, none⟩ = some (.int .i64 b1) ∧ W.cell? ⟨B + 1, 2, none⟩ = some (.int .i64 b2) ∧ W.cell? ⟨B + 1, 3, none⟩ = some (.int .i64 b3)) (by kernel_rfl) (⟨HC.out.x0, HC.out.x1, HC.out.x2, HC.out.x3, HC.out.y0, HC.out.y1, HC.out.y2, HC.out.y3⟩) (fun hHeld => ?_)
    generalize w1.drew = W0 at *
    refine takeL 0 (v := ?_) rfl (by kernel_rfl) (by kernel_rfl) (by kernel_rfl) (fun _ _ _ h => h) (Or.inl ⟨by rfl, ?_⟩) hHeld ?_
    rotate_left 1
    · (intro w hSw; go_simp; try with_reducible rfl)
    try simp only [Act.put, List.setIfInBounds_toArray, List.set_cons_zero, List.set_cons_succ]
    refine takeL 1 (v := ?_) rfl (by kernel_rfl) (by kernel_rfl) (by kernel_rfl) (fun _ _ _ h => h) (Or.inl ⟨by rfl, ?_⟩) hHeld ?_
    rotate_left 1
    · (intro w hSw; go_simp; try with_reducible rfl)
    try simp only [Act.put, List.setIfInBounds_toArray, List.set_cons_zero, List.set_cons_succ]
    refine takeL 2 (v := ?_) rfl (by kernel_rfl) (by kernel_rfl) (by kernel_rfl) (fun _ _ _ h => h) (Or.inl ⟨by rfl, ?_⟩) hHeld ?_
    rotate_left 1
    · (intro w hSw; go_simp; try with_reducible rfl)
    try simp only [Act.put, List.setIfInBounds_toArray, List.set_cons_zero, List.set_cons_succ]
    refine takeL 3 (v := ?_) rfl (by kernel_rfl) (by kernel_rfl) (by kernel_rfl) (fun _ _ _ h => h) (Or.inl ⟨by rfl, ?_⟩) hHeld ?_
    rotate_left 1
    · (intro w hSw; go_simp; try with_reducible rfl)
    try simp only [Act.put, List.setIfInBounds_toArray, List.set_cons_zero, List.set_cons_succ]
    refine takeL 5 (v := ?_) rfl (by kernel_rfl) (by kernel_rfl) (by kernel_rfl) (fun _ _ _ h => h) (Or.inl ⟨by rfl, ?_⟩) hHeld ?_
    rotate_left 1
    · (intro w hSw; go_simp; try with_reducible rfl)
    try simp only [Act.put, List.setIfInBounds_toArray, List.set_cons_zero, List.set_cons_succ]
    refine takeL 6 (v := ?_) rfl (by kernel_rfl) (by kernel_rfl) (by kernel_rfl) (fun _ _ _ h => h) (Or.inl ⟨by rfl, ?_⟩) hHeld ?_
    rotate_left 1
    · (intro w hSw; go_simp; try with_reducible rfl)
    try simp only [Act.put, List.setIfInBounds_toArray, List.set_cons_zero, List.set_cons_succ]
    refine takeL 7 (v := ?_) rfl (by kernel_rfl) (by kernel_rfl) (by kernel_rfl) (fun _ _ _ h => h) (Or.inl ⟨by rfl, ?_⟩) hHeld ?_
    rotate_left 1
    · (intro w hSw; go_simp; try with_reducible rfl)
    try simp only [Act.put, List.setIfInBounds_toArray, List.set_cons_zero, List.set_cons_succ]
    refine takeL 8 (v := ?_) rfl (by kernel_rfl) (by kernel_rfl) (by kernel_rfl) (fun _ _ _ h => h) (Or.inl ⟨by rfl, ?_⟩) hHeld ?_
    rotate_left 1
    · (intro w hSw; go_simp; try with_reducible rfl)
    try simp only [Act.put, List.setIfInBounds_toArray, List.set_cons_zero, List.set_cons_succ]
    refine takeL 10 (v := ?_) rfl (by kernel_rfl) (by kernel_rfl) (by kernel_rfl) (fun _ _ _ h => h) (Or.inl ⟨by rfl, ?_⟩) hHeld ?_
    rotate_left 1
    · (intro w hSw; go_simp; try with_reducible rfl)
    try simp only [Act.put, List.setIfInBounds_toArray, List.set_cons_zero, List.set_cons_succ]
    refine takeL 11 (v := ?_) rfl (by kernel_rfl) (by kernel_rfl) (by kernel_rfl) (fun _ _ _ h => h) (Or.inl ⟨by rfl, ?_⟩) hHeld ?_
    rotate_left 1
    · (intro w hSw; go_simp; try with_reducible rfl)
    try simp only [Act.put, List.setIfInBounds_toArray, List.set_cons_zero, List.set_cons_succ]
    refine takeL 12 (v := ?_) rfl (by kernel_rfl) (by kernel_rfl) (by kernel_rfl) (fun _ _ _ h => h) (Or.inl ⟨by rfl, ?_⟩) hHeld ?_
    rotate_left 1
    · (intro w hSw; go_simp; try with_reducible rfl)
    try simp only [Act.put, List.setIfInBounds_toArray, List.set_cons_zero, List.set_cons_succ]
    refine takeL 13 (v := ?_) rfl (by kernel_rfl) (by kernel_rfl) (by kernel_rfl) (fun _ _ _ h => h) (Or.inl ⟨by rfl, ?_⟩) hHeld ?_
    rotate_left 1
    · (intro w hSw; go_simp; try with_reducible rfl)
    try simp only [Act.put, List.setIfInBounds_toArray, List.set_cons_zero, List.set_cons_succ]
    refine takeL 15 (v := ?_) rfl (by kernel_rfl) (by kernel_rfl) (by kernel_rfl) (fun _ _ _ h => h) (Or.inl ⟨by rfl, ?_⟩) hHeld ?_
    rotate_left 1
    · (intro w hSw; go_simp; try with_reducible rfl)
    try simp only [Act.put, List.setIfInBounds_toArray, List.set_cons_zero, List.set_cons_succ]
    refine takeL 16 (v := ?_) rfl (by kernel_rfl) (by kernel_rfl) (by kernel_rfl) (fun _ _ _ h => h) (Or.inl ⟨by rfl, ?_⟩) hHeld ?_
    rotate_left 1
    · (intro w hSw; go_simp; try with_reducible rfl)
    try simp only [Act.put, List.setIfInBounds_toArray, List.set_cons_zero, List.set_cons_succ]
    refine takeL 17 (v := ?_) rfl (by kernel_rfl) (by kernel_rfl) (by kernel_rfl) (fun _ _ _ h => h) (Or.inl ⟨by rfl, ?_⟩) hHeld ?_
    rotate_left 1
    · (intro w hSw; go_simp; try with_reducible rfl)
    try simp only [Act.put, List.setIfInBounds_toArray, List.set_cons_zero, List.set_cons_succ]
    refine takeL 18 (v := ?_) rfl (by kernel_rfl) (by kernel_rfl) (by kernel_rfl) (fun _ _ _ h => h) (Or.inl ⟨by rfl, ?_⟩) hHeld ?_
    rotate_left 1
    · (intro w hSw; go_simp; try with_reducible rfl)
    try simp only [Act.put, List.setIfInBounds_toArray, List.set_cons_zero, List.set_cons_succ]
    refine stepL 4 (by kernel_rfl) rfl (fun K hK => ?_)
    go_simp
    refine (cmp_any a3 b3 W0).mono ?_
    rintro e Wx ⟨rfl, hw⟩
    rw [hw]
    clear hw Wx
    show K _ _
    refine hK.out _ _ ⟨HC.out.x0, HC.out.x1, HC.out.x2, HC.out.x3, HC.out.y0, HC.out.y1, HC.out.y2, HC.out.y3⟩ (fun hHeld => ?_)
    clear hK K
    try simp only [Act.put, List.setIfInBounds_toArray, List.set_cons_zero, List.set_cons_succ]
    refine stepL 9 (by kernel_rfl) rfl (fun K hK => ?_)
    go_simp
    refine (cmp_any a0 b0 W0).mono ?_
    rintro e Wx ⟨rfl, hw⟩
    rw [hw]
    clear hw Wx
    show K _ _
    refine hK.out _ _ ⟨HC.out.x0, HC.out.x1, HC.out.x2, HC.out.x3, HC.out.y0, HC.out.y1, HC.out.y2, HC.out.y3⟩ (fun hHeld => ?_)
    clear hK K
    try simp only [Act.put, List.setIfInBounds_toArray, List.set_cons_zero, List.set_cons_succ]
    refine stepL 14 (by kernel_rfl) rfl (fun K hK => ?_)
    go_simp
    refine (cmp_any a2 b2 W0).mono ?_
    rintro e Wx ⟨rfl, hw⟩
    rw [hw]
    clear hw Wx
    show K _ _
    refine hK.out _ _ ⟨HC.out.x0, HC.out.x1, HC.out.x2, HC.out.x3, HC.out.y0, HC.out.y1, HC.out.y2, HC.out.y3⟩ (fun hHeld => ?_)
    clear hK K
    try simp only [Act.put, List.setIfInBounds_toArray, List.set_cons_zero, List.set_cons_succ]
    refine stepL 19 (by kernel_rfl) rfl (fun K hK => ?_)
    go_simp
    refine (cmp_any a1 b1 W0).mono ?_
    rintro e Wx ⟨rfl, hw⟩
    rw [hw]
    clear hw Wx
    show K _ _
    refine hK.out _ _ ⟨HC.out.x0, HC.out.x1, HC.out.x2, HC.out.x3, HC.out.y0, HC.out.y1, HC.out.y2, HC.out.y3⟩ (fun hHeld => ?_)
    clear hK K
    try simp only [Act.put, List.setIfInBounds_toArray, List.set_cons_zero, List.set_cons_succ]
    refine stepL 20 (by kernel_rfl) rfl (fun K hK => ?_)
    go_simp
    have HR : Bx ((W0.alloc (.cells #[.int .i64 (sg a3 b3), .int .i64 (sg a0 b0), .int .i64 (sg a2 b2), .int .i64 (sg a1 b1)] 3)).heap[W0.heap.size]? = some (.cells #[.int .i64 (sg a3 b3), .int .i64 (sg a0 b0), .int .i64 (sg a2 b2), .int .i64 (sg a1 b1)] 3 (0, 0))) := Bx.mk (hnew _ _ _ rfl)
    have HC := Bx.mk (HC.out.later (below_a (.cells #[.int .i64 (sg a3 b3), .int .i64 (sg a0 b0), .int .i64 (sg a2 b2), .int .i64 (sg a1 b1)] 3)) (Nat.le_refl _))
    refine hK.out _ _ ⟨HC.out.x0, HC.out.x1, HC.out.x2, HC.out.x3, HC.out.y0, HC.out.y1, HC.out.y2, HC.out.y3⟩ (fun hHeld => ?_)
    clear hK K
    try simp only [Act.put, List.setIfInBounds_toArray, List.set_cons_zero, List.set_cons_succ]
    generalize W0.alloc (.cells #[.int .i64 (sg a3 b3), .int .i64 (sg a0 b0), .int .i64 (sg a2 b2), .int .i64 (sg a1 b1)] 3) = W1 at *
    generalize W0.heap.size = G at *
    refine stepL 21 (by kernel_rfl) rfl (fun K hK => ?_)
    go_simp
    refine (or_any _ _ _ _ G W1 HR.out).mono ?_
    rintro e Wx ⟨rfl, hw⟩
    rw [hw]
    clear hw Wx
    show K _ _
    refine hK.out _ _ ⟨HC.out.x0, HC.out.x1, HC.out.x2, HC.out.x3, HC.out.y0, HC.out.y1, HC.out.y2, HC.out.y3⟩ (fun hHeld => ?_)
    clear hK K
    try simp only [Act.put, List.setIfInBounds_toArray, List.set_cons_zero, List.set_cons_succ]
    refine takeL 22 (v := ?_) rfl (by kernel_rfl) (by kernel_rfl) (by kernel_rfl) (fun _ _ _ h => h) (Or.inl ⟨by rfl, ?_⟩) hHeld ?_
    rotate_left 1
    · (intro w hSw; go_simp; try with_reducible rfl)
    try simp only [Act.put, List.setIfInBounds_toArray, List.set_cons_zero, List.set_cons_succ]
    refine wpAnyH_done (by kernel_rfl) ?_ _
    refine NoPanic.normal ?_
    clear hHeld
    go_wp2
    go_ret
    exact ⟨rfl, HC.out.below, HC.out.dr⟩
end Go.Proofs.YtnefpjdjnjcmbaaGreatDoor
namespace Go.Proofs.YtnefpjdjnjcmbaaGreatDoor
open Go Go.RowKit
/-- Is one of four pairs ahead? -/
def less4 (p0 q0 p1 q1 p2 q2 p3 q3 : Int) : Bool := if p0 ≠ q0 then decide (p0 < q0) else if p1 ≠ q1 then decide (p1 < q1) else if p2 ≠ q2 then decide (p2 < q2) else if p3 ≠ q3 then decide (p3 < q3) else false
/-- Are claims ahead of others? -/
def lessC (a b : Cl) : Bool := less4 a.se b.se a.id b.id a.ex b.ex a.ro b.ro
set_option maxRecDepth 100000 in
set_option maxHeartbeats 4000000 in
theorem less_any (a b : Cl) (w : World) : Calls Tryz.prog 33 #[clV a, clV b] w fun e w' => e = .returned (.bool (lessC a b)) ∧ Below w.heap.size w w' := by
  obtain ⟨p1, p3, p2, p0⟩ := a
  obtain ⟨q1, q3, q2, q0⟩ := b
  unfold clV lessC
  simp only
  obtain ⟨V, hV⟩ : ∃ V, less4 p0 q0 p1 q1 p2 q2 p3 q3 = V := ⟨_, rfl⟩
  rw [hV]
  have HV := Bx.mk hV
  clear hV
  obtain ⟨B, hB⟩ : ∃ B, w.heap.size = B := ⟨_, rfl⟩
  rw [hB]
  have H0 : Bx (Below B w ((((w.alloc (.cells #[.int .i64 p1, .int .i64 p3, .int .i64 p2, .int .i64 p0] 24)).alloc (.cells #[.int .i64 q1, .int .i64 q3, .int .i64 q2, .int .i64 q0] 24)).alloc (.cells #[.int .i64 p0, .int .i64 p1, .int .i64 p2, .int .i64 p3] 99)).alloc (.cells #[.int .i64 q0, .int .i64 q1, .int .i64 q2, .int .i64 q3] 99))) := Bx.mk (by rw [← hB]; exact (((below_a _).alloc (by simp) _).alloc (by simp; omega) _).alloc (by simp; omega) _)
  have HX : Bx (((((w.alloc (.cells #[.int .i64 p1, .int .i64 p3, .int .i64 p2, .int .i64 p0] 24)).alloc (.cells #[.int .i64 q1, .int .i64 q3, .int .i64 q2, .int .i64 q0] 24)).alloc (.cells #[.int .i64 p0, .int .i64 p1, .int .i64 p2, .int .i64 p3] 99)).alloc (.cells #[.int .i64 q0, .int .i64 q1, .int .i64 q2, .int .i64 q3] 99)).heap[B + 1 + 1]? = some (.cells #[.int .i64 p0, .int .i64 p1, .int .i64 p2, .int .i64 p3] 99 (0, 0)) ∧ ((((w.alloc (.cells #[.int .i64 p1, .int .i64 p3, .int .i64 p2, .int .i64 p0] 24)).alloc (.cells #[.int .i64 q1, .int .i64 q3, .int .i64 q2, .int .i64 q0] 24)).alloc (.cells #[.int .i64 p0, .int .i64 p1, .int .i64 p2, .int .i64 p3] 99)).alloc (.cells #[.int .i64 q0, .int .i64 q1, .int .i64 q2, .int .i64 q3] 99)).heap[B + 1 + 1 + 1]? = some (.cells #[.int .i64 q0, .int .i64 q1, .int .i64 q2, .int .i64 q3] 99 (0, 0))) := Bx.mk ⟨by rw [hold _ _ _ (by simp; omega)]; exact hnew _ _ _ (by simp; omega), hnew _ _ _ (by simp; omega)⟩
  go_enter Tryz.func33, Tryz.ntmps33
  go_wp2
  generalize (((w.alloc (.cells #[.int .i64 p1, .int .i64 p3, .int .i64 p2, .int .i64 p0] 24)).alloc (.cells #[.int .i64 q1, .int .i64 q3, .int .i64 q2, .int .i64 q0] 24)).alloc (.cells #[.int .i64 p0, .int .i64 p1, .int .i64 p2, .int .i64 p3] 99)).alloc (.cells #[.int .i64 q0, .int .i64 q1, .int .i64 q2, .int .i64 q3] 99) = w0 at *
  obtain ⟨X, hX⟩ : ∃ X, B + 1 + 1 = X := ⟨_, rfl⟩
  obtain ⟨Y, hY⟩ : ∃ Y, B + 1 + 1 + 1 = Y := ⟨_, rfl⟩
  rw [hY, hX] at HX
  rw [hY, hX]
  clear hX hY
  have kx : ∀ n, (w0.drewN n).heap[X]? = some (.cells #[.int .i64 p0, .int .i64 p1, .int .i64 p2, .int .i64 p3] 99 (0, 0)) := fun n => HX.out.1
  have ky : ∀ n, (w0.drewN n).heap[Y]? = some (.cells #[.int .i64 q0, .int .i64 q1, .int .i64 q2, .int .i64 q3] 99 (0, 0)) := fun n => HX.out.2
  have x0 : w0.cell? ⟨X, 0, none⟩ = some (.int .i64 p0) := by rw [cell_of_row _ _ _ _ _ _ HX.out.1]; rfl
  have y0 : w0.cell? ⟨Y, 0, none⟩ = some (.int .i64 q0) := by rw [cell_of_row _ _ _ _ _ _ HX.out.2]; rfl
  have x1 : w0.cell? ⟨X, 1, none⟩ = some (.int .i64 p1) := by rw [cell_of_row _ _ _ _ _ _ HX.out.1]; rfl
  have y1 : w0.cell? ⟨Y, 1, none⟩ = some (.int .i64 q1) := by rw [cell_of_row _ _ _ _ _ _ HX.out.2]; rfl
  have x2 : w0.cell? ⟨X, 2, none⟩ = some (.int .i64 p2) := by rw [cell_of_row _ _ _ _ _ _ HX.out.1]; rfl
  have y2 : w0.cell? ⟨Y, 2, none⟩ = some (.int .i64 q2) := by rw [cell_of_row _ _ _ _ _ _ HX.out.2]; rfl
  have x3 : w0.cell? ⟨X, 3, none⟩ = some (.int .i64 p3) := by rw [cell_of_row _ _ _ _ _ _ HX.out.1]; rfl
  have y3 : w0.cell? ⟨Y, 3, none⟩ = some (.int .i64 q3) := by rw [cell_of_row _ _ _ _ _ _ HX.out.2]; rfl
  clear kx ky HX
  refine wp_loop_rounds 5 ?_
  rw [rounds_succ]
  by_cases h0 : ¬ p0 = q0
  · have hb0 : (p0 != q0) = true := by simp [h0]
    have HE : Bx (V = decide (p0 < q0)) := Bx.mk (by rw [← HV.out]; unfold less4; simp [h0])
    clear HV
    go_wp2
    go_region
    go_wp2
    go_region
    go_wp2
    go_ret
    exact ⟨by rw [HE.out]; rfl, H0.out.drew.drew⟩
  obtain rfl : p0 = q0 := Decidable.not_not.mp h0
  have hb0 : (p0 != p0) = false := by simp
  clear h0
  go_wp2
  go_region
  go_wp2
  rw [rounds_succ]
  by_cases h1 : ¬ p1 = q1
  · have hb1 : (p1 != q1) = true := by simp [h1]
    have HE : Bx (V = decide (p1 < q1)) := Bx.mk (by rw [← HV.out]; unfold less4; simp [h1])
    clear HV
    go_wp2
    go_region
    go_wp2
    go_region
    go_wp2
    go_ret
    exact ⟨by rw [HE.out]; rfl, H0.out.drew.drew.drew⟩
  obtain rfl : p1 = q1 := Decidable.not_not.mp h1
  have hb1 : (p1 != p1) = false := by simp
  clear h1
  go_wp2
  go_region
  go_wp2
  rw [rounds_succ]
  by_cases h2 : ¬ p2 = q2
  · have hb2 : (p2 != q2) = true := by simp [h2]
    have HE : Bx (V = decide (p2 < q2)) := Bx.mk (by rw [← HV.out]; unfold less4; simp [h2])
    clear HV
    go_wp2
    go_region
    go_wp2
    go_region
    go_wp2
    go_ret
    exact ⟨by rw [HE.out]; rfl, H0.out.drew.drew.drew.drew⟩
  obtain rfl : p2 = q2 := Decidable.not_not.mp h2
  have hb2 : (p2 != p2) = false := by simp
  clear h2
  go_wp2
  go_region
  go_wp2
  rw [rounds_succ]
  by_cases h3 : ¬ p3 = q3
  · have hb3 : (p3 != q3) = true := by simp [h3]
    have HE : Bx (V = decide (p3 < q3)) := Bx.mk (by rw [← HV.out]; unfold less4; simp [h3])
    clear HV
    go_wp2
    go_region
    go_wp2
    go_region
    go_wp2
    go_ret
    exact ⟨by rw [HE.out]; rfl, H0.out.drew.drew.drew.drew.drew⟩
  obtain rfl : p3 = q3 := Decidable.not_not.mp h3
  have hb3 : (p3 != p3) = false := by simp
  clear h3
  go_wp2
  go_region
  go_wp2
  rw [rounds_succ]
  go_wp2
  go_ret
  exact ⟨by rw [← HV.out]; unfold less4; simp, H0.out.drew.drew.drew.drew⟩
theorem cmpC_neg (a b : Cl) : decide (cmpC a b < 0) = lessC a b := by
  obtain ⟨p1, p3, p2, p0⟩ := a
  obtain ⟨q1, q3, q2, q0⟩ := b
  unfold cmpC lessC or4 less4 sg
  simp only
  rw [Bool.eq_iff_iff]
  rcases Int.lt_trichotomy p0 q0 with h0 | h0 | h0
  · simp [h0, Int.ne_of_lt h0]
  · subst h0
    rcases Int.lt_trichotomy p1 q1 with h1 | h1 | h1
    · simp [h1, Int.ne_of_lt h1]
    · subst h1
      rcases Int.lt_trichotomy p2 q2 with h2 | h2 | h2
      · simp [h2, Int.ne_of_lt h2]
      · subst h2
        rcases Int.lt_trichotomy p3 q3 with h3 | h3 | h3
        · simp [h3, Int.ne_of_lt h3]
        · subst h3
          simp
        · simp [h3, Int.ne_of_gt h3, Int.not_lt.mpr (Int.le_of_lt h3)]
      · simp [h2, Int.ne_of_gt h2, Int.not_lt.mpr (Int.le_of_lt h2)]
    · simp [h1, Int.ne_of_gt h1, Int.not_lt.mpr (Int.le_of_lt h1)]
  · simp [h0, Int.ne_of_gt h0, Int.not_lt.mpr (Int.le_of_lt h0)]
theorem lessC_iff (p0 p1 p2 p3 q0 q1 q2 q3 : Int) : lessC ⟨p1, p3, p2, p0⟩ ⟨q1, q3, q2, q0⟩ = true ↔ (p0 < q0 ∨ (p0 = q0 ∧ (p1 < q1 ∨ (p1 = q1 ∧ (p2 < q2 ∨ (p2 = q2 ∧ p3 < q3)))))) := by
  unfold lessC less4
  simp only
  by_cases a0 : p0 = q0
  · rw [if_neg (by simp [a0])]
    by_cases a1 : p1 = q1
    · rw [if_neg (by simp [a1])]
      by_cases a2 : p2 = q2
      · rw [if_neg (by simp [a2])]
        by_cases a3 : p3 = q3
        · rw [if_neg (by simp [a3])]
          simp only [Bool.false_eq_true, false_iff]
          omega
        · rw [if_pos a3, decide_eq_true_eq]
          omega
      · rw [if_pos a2, decide_eq_true_eq]
        omega
    · rw [if_pos a1, decide_eq_true_eq]
      omega
  · rw [if_pos a0, decide_eq_true_eq]
    omega
theorem less_trans (a b c : Cl) (h : lessC a b = true) (k : lessC b c = true) : lessC a c = true := by
  obtain ⟨p1, p3, p2, p0⟩ := a
  obtain ⟨q1, q3, q2, q0⟩ := b
  obtain ⟨r1, r3, r2, r0⟩ := c
  rw [lessC_iff] at *
  omega
end Go.Proofs.YtnefpjdjnjcmbaaGreatDoor
