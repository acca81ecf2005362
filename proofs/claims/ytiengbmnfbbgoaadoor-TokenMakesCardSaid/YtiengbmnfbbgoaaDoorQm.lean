/-
  What cuts bytes and parts, the example of the sixth layer, the document's Secret and Prove, tokens beside themselves.
-/
import Derived.Test.YtiengbmnfbbgoaaDoorQk
import Derived.Test.YtiengbmnfbbgoaaDoorQd
import Derived.Test.YtiengbmnfbbgoaaDoorQh
import Derived.Test.YtiengbmnfbbgoaaDoorCf
import Derived.Test.YtiengbmnfbbgoaaDoorQa
import Derived.Stop.BytesEq
import Derived.Laws.StructEq
namespace Go.Proofs.YtiengbmnfbbgoaaDoor
open Go Go.RowKit
set_option maxRecDepth 100000 in
theorem cut6_any (bs : List UInt8) (k : Nat) (v : Value) (w : World) (hv : Bytes w v bs) (hl : bs.length ≤ 9223372036854775807) (hk : k ≤ 1000000) :
    Calls Tryd.prog 8 #[v, .int .i64 (k : Int)] w fun e w' => ∃ v', e = .returned v' ∧ (∀ W, Bytes W v bs → Bytes W v' (bs.take k)) ∧ w = w' := by
  have HV := Bx.mk hv
  obtain ⟨a, cap, rfl, hc, hnone, -⟩ := hv
  obtain ⟨n, hn⟩ : ∃ n, bs.length = n := ⟨_, rfl⟩
  have HN := Bx.mk hn
  rw [hn] at HV hl hc ⊢
  have hn1 : (n : Int) ≤ 9223372036854775807 := by omega
  have hk1 : (k : Int) ≤ 1000000 := by omega
  by_cases hlt : k < n
  · have t1 : (k : Int) < (n : Int) := by omega
    have t2 : (k : Int) ≤ (cap : Int) := by omega
    have s1 := fun W => cut_bytes a n cap k (by omega) (by omega) hnone W
    have HB : Bx (∀ W, Bytes W (.slice a n cap) bs → Bytes W (.slice a k cap) (bs.take k)) := Bx.mk (fun W hW => hW.take k (by omega))
    clear hn hnone hc HV
    go_enter Tryd.func8, Tryd.ntmps8
    go_wp2
    go_ret
    exact ⟨_, rfl, HB.out, rfl⟩
  · have t1 : ¬ (k : Int) < (n : Int) := by omega
    have t2 : (n : Int) ≤ (cap : Int) := by omega
    have s1 := fun W => cut_bytes a n cap n (by omega) (by omega) hnone W
    have HB : Bx (∀ W, Bytes W (.slice a n cap) bs → Bytes W (.slice a n cap) (bs.take k)) := Bx.mk (fun W hW => by rw [List.take_of_length_le (by omega)]; exact hW)
    clear hn hnone hc HV
    go_enter Tryd.func8, Tryd.ntmps8
    go_wp2
    go_ret
    exact ⟨_, rfl, HB.out, rfl⟩
/-- At most four parts, of at most 40 bytes. -/
def cut4 (pss : List (List UInt8)) : List (List UInt8) := (pss.take 4).map (·.take 40)
theorem cut4_len (pss : List (List UInt8)) : (cut4 pss).length ≤ 4 := by
  unfold cut4
  rw [List.length_map, List.length_take]
  omega
theorem cut4_each (pss : List (List UInt8)) : ∀ p ∈ cut4 pss, p.length ≤ 40 := by
  intro p hp
  unfold cut4 at hp
  obtain ⟨q, _, rfl⟩ := List.mem_map.1 hp
  simp only [List.length_take]
  omega
theorem few4_succ (pss : List (List UInt8)) (k : Nat) (h : k < pss.length) : (pss.take (k + 1)).map (·.take 40) = (pss.take k).map (·.take 40) ++ [(pss.getD k []).take 40] := by
  rw [List.take_succ_eq_append_getElem h, List.map_append]
  simp [h]
/-- What few hands back. -/
def Few4 (w : World) (pss : List (List UInt8)) (e : Ending) (w' : World) : Prop := ∃ vo xs, e = .returned vo ∧ Vals w xs (cut4 pss) ∧ OwnP w' w.heap.size vo xs ∧ Below w.heap.size w w'
def Few4Rel (w : World) (pss : List (List UInt8)) (o i : Value) (wr : World) : Prop :=
  ∃ k xs, k ≤ pss.length ∧ k ≤ 4 ∧ i = .int .i64 ((k : Nat) : Int) ∧ Vals w xs ((pss.take k).map (·.take 40)) ∧ OwnP wr w.heap.size o xs ∧ Below w.heap.size w wr
set_option maxRecDepth 100000 in
set_option maxHeartbeats 1000000 in
theorem few6_any (pss : List (List UInt8)) (v : Value) (w : World) (hv : Parts w v pss) (hn : pss.length ≤ 9223372036854775807) (hp : ∀ p ∈ pss, p.length ≤ 9223372036854775807) :
    Calls Tryd.prog 9 #[v] w (Few4 w pss) := by
  have HV := Bx.mk hv
  have HP := Bx.mk hp
  obtain ⟨a, cap, rfl, -⟩ := hv
  obtain ⟨n, hnn⟩ : ∃ n, pss.length = n := ⟨_, rfl⟩
  have HN := Bx.mk hnn
  rw [hnn] at HV hn ⊢
  clear hnn hp
  have hn1 : (n : Int) ≤ 9223372036854775807 := by omega
  go_enter Tryd.func9, Tryd.ntmps9
  go_wp2
  go_loopw [3, 4] (fun o i wr => Few4Rel w pss o i wr) (fun _ i _ => 4 - (intOf i).toNat)
  case atStart => exact ⟨0, [], by omega, by omega, rfl, ⟨rfl, fun j hj => by simp at hj⟩, ⟨rfl, .inl ⟨rfl, rfl⟩⟩, Below.refl _ _⟩
  case round =>
    obtain ⟨k, xs, hk, hk8, rfl, hvals, hop, hbel⟩ := hrel
    have hkn : k ≤ n := by have := HN.out; omega
    have HA := Bx.mk (And.intro hvals (And.intro hop hbel))
    obtain ⟨oa, on, oc, rfl⟩ := ownP_form hop
    clear hvals hop hbel hk
    by_cases hlt : k < n ∧ k < 4
    · obtain ⟨hkn', hk8'⟩ := hlt
      have t1 : (k : Int) < (n : Int) := by omega
      have t2 : (k : Int) < 4 := by omega
      obtain ⟨a', cap', hv', hr'⟩ := HV.out
      injection hv' with e1 e2 e3
      obtain ⟨p, o, ha, hcell⟩ := hr' (by omega)
      subst e1
      subst ha
      obtain ⟨x, hx, hxb⟩ := hcell k (by rw [HN.out]; exact hkn')
      have HXB := Bx.mk hxb
      have hcw : wr.cell? ⟨p, o + k, none⟩ = some x := by
        have hlt := World.block_lt_of_cell? _ _ hx
        rw [HA.out.2.2.cell (p := ⟨p, o + k, none⟩) hlt]
        exact hx
      obtain ⟨ax, cx, hxf, -, -⟩ := bytes_form hxb
      have HQl : Bx ((pss.getD k []).length ≤ 9223372036854775807) := Bx.mk (by
        have hm : pss.getD k [] ∈ pss := by
          have h : k < pss.length := by rw [HN.out]; exact hkn'
          rw [List.getD_eq_getElem?_getD, List.getElem?_eq_getElem h]
          exact List.getElem_mem h
        exact HP.out _ hm)
      have HSc : Bx ((pss.take (k + 1)).map (·.take 40) = (pss.take k).map (·.take 40) ++ [(pss.getD k []).take 40]) := Bx.mk (few4_succ pss k (by rw [HN.out]; exact hkn'))
      generalize pss.getD k [] = pk at *
      subst hxf
      clear hx hxb hcell hr' e2 e3
      go_wp2_with fail
      refine (cut6_any pk 40 _ wr (HXB.out.later HA.out.2.2) HQl.out (by omega)).mono ?_
      rintro e w1 ⟨v1, rfl, hb1, rfl⟩
      have HB2 := Bx.mk (hb1 w HXB.out)
      obtain ⟨a1, c1, hv1, -⟩ := HB2.out
      obtain ⟨m1, hm1⟩ : ∃ m, (pk.take 40).length = m := ⟨_, rfl⟩
      rw [hm1] at hv1
      subst hv1
      clear hb1 hm1 HQl HXB
      have HXl : Bx (xs.length ≤ 1000) := Bx.mk (by have := HA.out.1.1; rw [List.length_map, List.length_take] at this; omega)
      go_wp2_with (refine wpList_apP rfl _ _ rfl w.heap.size _ xs (by rfl) (HA.out.2.1.a _) wr.heap.size (.slice a1 m1 c1) (by rfl) (hnew _ _ _ rfl) rfl HXl.out (Nat.le_trans HA.out.2.2.size (below_a _).size) ?_; intro v1 w1 h1 g1; have H1 : Bx (OwnP w1 w.heap.size v1 (xs ++ [.slice a1 m1 c1]) ∧ Below w.heap.size w w1) := Bx.mk ⟨h1, (HA.out.2.2.alloc HA.out.2.2.size _).trans (ownP_below (HA.out.2.1.a _) g1 (Nat.le_trans HA.out.2.2.size (below_a _).size))⟩; clear h1 g1)
      go_roundw
      case rel => exact ⟨k + 1, xs ++ [.slice a1 m1 c1], by have := HN.out; omega, by omega, by go_num, by rw [HSc.out]; exact HA.out.1.snoc HB2.out, H1.out⟩
      case measure => simp [intOf]; omega
    · have HE : Bx ((pss.take k).map (·.take 40) = cut4 pss) := Bx.mk (by
        unfold cut4
        by_cases h : k = 4
        · rw [h]
        · have h1 : pss.length ≤ k := by rw [HN.out]; omega
          rw [List.take_of_length_le h1, List.take_of_length_le (by omega)])
      have HF : Bx (Vals w xs (cut4 pss) ∧ OwnP wr w.heap.size (.slice oa on oc) xs ∧ Below w.heap.size w wr) := Bx.mk (by rw [← HE.out]; exact HA.out)
      clear HA HE
      by_cases h1 : k < n
      · have t1 : (k : Int) < (n : Int) := by omega
        have t2 : ¬ (k : Int) < 4 := by omega
        go_wp2
        go_ret
        exact ⟨_, xs, rfl, HF.out⟩
      · have t1 : ¬ (k : Int) < (n : Int) := by omega
        go_wp2
        go_ret
        exact ⟨_, xs, rfl, HF.out⟩
theorem parts_of {W : World} {vo : Value} {xs : List Value} {qs : List (List UInt8)} {b : Nat} (h : OwnP W b vo xs) (hv : Vals W xs qs) : Parts W vo qs := by
  rcases h.2 with ⟨hn, h0⟩ | ⟨g, cap, cur, hvo, _, hg, hc1, hc2, hc3, hc4⟩
  · have : qs = [] := List.length_eq_zero_iff.1 (by rw [← hv.1]; exact h0)
    subst this
    exact ⟨none, 0, hn, fun e => by simp at e⟩
  · refine ⟨_, cap, by rw [← hv.1]; exact hvo, fun _ => ⟨g, 0, rfl, fun j hj => ?_⟩⟩
    rw [← hv.1] at hj
    refine ⟨xs.getD j undef, ?_, hv.2 j hj⟩
    rw [cell_of_row _ _ _ _ _ _ hg, Nat.zero_add, ← Array.getElem?_toList]
    have h1 : (cur.toList.take (xs.length * 1))[j]? = xs[j]? := by rw [hc4]
    rw [List.getElem?_take_of_lt (by omega)] at h1
    rw [h1]
    simp [hj]
theorem mk_one : mkN [1] = 2 := by decide
theorem in_c : okC ⟨5, ((mkN [1] : Nat) : Int), 100, 1⟩ = true := by decide
set_option maxRecDepth 100000 in
set_option maxHeartbeats 1000000 in
theorem known6_any (w : World) (hTab : Tab w) (hg : 0 < w.heap.size) : Calls Tryd.prog 15 #[] w fun e w' => e = .returned (.bool true) ∧ Below w.heap.size w w' := by
  obtain ⟨zc, hzc⟩ : ∃ zc, tkC c0 z32 = zc := ⟨_, rfl⟩
  have hzv : ∀ W : World, (zeroValue 39).run Tryd.prog W = .ok (.agg zc) W := fun W => by rw [← hzc]; exact tk_zero W
  obtain ⟨key, hkey⟩ : ∃ key, List.replicate 16 (0 : UInt8) = key := ⟨_, rfl⟩
  have HKL : Bx (key.length = 16) := Bx.mk (by rw [← hkey]; rfl)
  have HT : Bx (∀ W, Below w.heap.size w W → Tab W ∧ 0 < W.heap.size) := Bx.mk fun W hb => ⟨hTab.later hb hg, Nat.lt_of_lt_of_le hg hb.size⟩
  have HG := Bx.mk hg
  have hK := secK_length key ⟨5, ((mkN [1] : Nat) : Int), 100, 1⟩
  obtain ⟨kl, hkl⟩ : ∃ kl : List Value, tkC ⟨5, ((mkN [1] : Nat) : Int), 100, 1⟩ (secK key ⟨5, ((mkN [1] : Nat) : Int), 100, 1⟩) = kl.toArray := ⟨_, rfl⟩
  have HI : Bx ((Tryd.prog.info? 39).map (·.size) = some kl.toArray.size ∧ kl.toArray.all (·.oneCell') = true ∧ kl.toArray.size = zc.size ∧ (Tryd.prog.info? 39).map (·.size) = some kl.length) := Bx.mk (by rw [show kl.length = kl.toArray.size from rfl, ← hkl, ← hzc]; exact ⟨tk_info _ _ hK, tkC_one _ _, by rw [tkC_size _ _ hK, tkC_size _ _ rfl], tk_info _ _ hK⟩)
  have HC3 : Bx (∀ (W : World) (D : Nat) (t : TypeId), W.heap[D]? = some (.cells kl.toArray t (0, 0)) → W.cell? ⟨D, 3, none⟩ = some (.int .i64 1) ∧ W.rangeAt D 0 kl) := Bx.mk fun W D t h => ⟨by rw [← hkl] at h; exact tk_in h, fun j u hj => by show W.cell? ⟨D, 0 + j, none⟩ = some u; rw [cell_of_row _ _ _ _ _ _ h, Nat.zero_add]; simpa using hj⟩
  have HNew : Bx (∀ W, Below w.heap.size w W → ∀ v, Bytes W v key → Calls Tryd.prog 29 #[v] W fun e w' => ∃ M, e = .returned (.tuple #[.pointer (some ⟨M, 0, none⟩), .int .i64 0]) ∧ MT w' M [] key ∧ W.heap.size ≤ M ∧ Below W.heap.size W w') := Bx.mk fun W hb v hv => mnew_ok key v W hv (by rw [HKL.out]; omega) (by rw [HKL.out]; omega)
  have HIss : Bx (∀ (M : Nat) W vr, w.heap.size ≤ M → Below w.heap.size w W → MT W M [] key → Ints W vr [1] → Calls Tryd.prog 32 #[.pointer (some ⟨M, 0, none⟩), .int .i64 5, .int .i64 100, vr] W fun e w' => e = .returned (.tuple #[.agg kl.toArray, .int .i64 0]) ∧ Issued M [] [⟨5, ((mkN [1] : Nat) : Int), 100, 1⟩] W w') := Bx.mk fun M W vr hM hb hm hv => by
    have h := issue_ok M [] key 5 100 [1] vr W hm (by decide) hv (by decide) (by decide) in_c (by rw [HKL.out]; omega) (hTab.later hb hg) (Nat.lt_of_lt_of_le hg hb.size) (by omega)
    rw [← hkl]
    exact h
  have HHo : Bx (∀ W v, Below w.heap.size w W → IsKey W v key → Calls Tryd.prog 16 #[v, .agg kl.toArray] W fun e w' => e = .returned (.bool true) ∧ Below W.heap.size W w') := Bx.mk fun W v hb hv => by
    have h := holds_ok key ⟨5, ((mkN [1] : Nat) : Int), 100, 1⟩ (secK key ⟨5, ((mkN [1] : Nat) : Int), 100, 1⟩) v W hv hK (by rw [HKL.out]; omega) in_c (hTab.later hb hg) (Nat.lt_of_lt_of_le hg hb.size)
    rw [← hkl]
    rw [decide_eq_true rfl] at h
    exact h
  clear hTab hg hK hkl
  have hmake := fun W => mk_u8g 16 16 .i64 .i64 16 16 rfl rfl (Nat.le_refl _) (by omega) W
  have H0 : Bx (Bytes (w.alloc (.cells (u8s (List.replicate 16 0)) 5)) (.slice (some ⟨w.heap.size, 0, none⟩) 16 16) key) := Bx.mk (by rw [hkey]; have h := built w key; rw [HKL.out] at h; exact h)
  rw [hkey] at H0 hmake
  clear hkey hzc
  obtain ⟨B, hB⟩ : ∃ B, w.heap.size = B := ⟨_, rfl⟩
  have HA := Bx.mk (below_a (W := w) (.cells (u8s key) 5))
  rw [hB] at HA HNew HIss HHo HT ⊢
  have HB := Bx.mk hB
  go_enter Tryd.func15, Tryd.ntmps15
  go_wp2_with fail
  rw [hB] at H0
  generalize w.alloc (.cells (u8s key) 5) = w0 at *
  refine (HNew.out w0 HA.out _ H0.out).mono ?_
  rintro e w1 ⟨M, rfl, hm1, hM, hb1⟩
  have HMB : Bx (B ≤ M) := Bx.mk (Nat.le_trans (Nat.le_trans (Nat.le_of_eq HB.out.symm) HA.out.size) hM)
  obtain ⟨v1, hk1⟩ := KM.start hm1
  have H1 := Bx.mk (And.intro hk1 (HA.out.trans (hb1.mono (Nat.le_trans (Nat.le_of_eq HB.out.symm) HA.out.size))))
  clear hm1 hM hb1 hk1 H0 HA
  go_wp2_with fail
  have H2 := Bx.mk (And.intro (H1.out.1.later (below_a (.cells #[.int .i64 1] 3))) (And.intro (H1.out.2.alloc (Nat.le_trans (Nat.le_of_eq HB.out.symm) H1.out.2.size) (.cells #[.int .i64 1] 3)) (ints1 w1 1 3)))
  generalize w1.alloc (.cells #[.int .i64 1] 3) = w2 at *
  generalize w1.heap.size = D1 at *
  refine (HIss.out M w2 _ HMB.out H2.out.2.1 H2.out.1.mt H2.out.2.2).mono ?_
  rintro e w3 ⟨rfl, hi3⟩
  have H3 := Bx.mk (And.intro (H2.out.1.minted hi3) (H2.out.2.1.trans (grown_below hi3.1 HMB.out (Nat.le_trans (Nat.le_of_eq HB.out.symm) H2.out.2.1.size))))
  clear hi3 H2 H1
  obtain ⟨D, hD⟩ : ∃ D, w3.heap.size = D := ⟨_, rfl⟩
  have HDB : Bx (B ≤ D) := Bx.mk (by rw [← hD, ← HB.out]; exact H3.out.2.size)
  have H4 := Bx.mk (And.intro (H3.out.1.new (.cells zc 39)) (H3.out.2.alloc (Nat.le_trans (Nat.le_of_eq HB.out.symm) H3.out.2.size) (.cells zc 39)))
  rw [hD] at H4
  clear H3
  go_upto_region 3 with (refine wpList_store_new rfl 39 _ _ rfl D kl.toArray zc _ (by rfl) (by rfl) (H4.out.1.rows _ (.head _)).1 HI.out.2.2.1 HI.out.1 HI.out.2.1 ?_; intro w5 hw8 hr8; have hg8 := Bx.mk (kb_of hw8); have HR8 := Bx.mk hr8; clear hw8 hr8)
  have B0 := Bx.mk (And.intro (H4.out.1.set hg8.out HR8.out (fun y hy => (List.not_mem_nil hy).elim)).drew ((H4.out.2.trans (grown_below hg8.out HDB.out (Nat.le_trans (Nat.le_of_eq HB.out.symm) H4.out.2.size))).drew))
  clear H4 hg8 HR8 hD
  refine wp_region_noPanic ?_
  refine wp_region_held_drew (S := fun W => W.heap[D]? = some (.cells kl.toArray 39 (0, 0))) (by kernel_rfl) ((B0.out.1.rows _ (.head _)).1) (fun hHeld => ?_)
  generalize w5.drew = W0 at *
  refine takeL 0 (v := ?_) rfl (by kernel_rfl) (by kernel_rfl) (by kernel_rfl) (fun _ _ _ h => h) (Or.inl ⟨by rfl, ?_⟩) hHeld ?_
  rotate_left 1
  · (intro w hSw; go_simp; try with_reducible rfl)
  try simp only [Act.put, List.setIfInBounds_toArray, List.set_cons_zero, List.set_cons_succ]
  refine takeL 1 (v := ?_) rfl (by kernel_rfl) (by kernel_rfl) (by kernel_rfl) (fun _ _ _ h => h) (Or.inl ⟨by rfl, ?_⟩) hHeld ?_
  rotate_left 1
  · (intro w hSw; go_simp; try with_reducible rfl)
  try simp only [Act.put, List.setIfInBounds_toArray, List.set_cons_zero, List.set_cons_succ]
  refine takeL 2 (v := ?_) rfl (by kernel_rfl) (by kernel_rfl) (by kernel_rfl) (fun _ _ _ h => h) (Or.inl ⟨by rfl, ?_⟩) hHeld ?_
  rotate_left 1
  · (intro w hSw; go_simp; try with_reducible rfl)
  try simp only [Act.put, List.setIfInBounds_toArray, List.set_cons_zero, List.set_cons_succ]
  refine takeL 3 (v := ?_) rfl (by kernel_rfl) (by kernel_rfl) (by kernel_rfl) (fun _ _ _ h => h) (Or.inl ⟨by rfl, ?_⟩) hHeld ?_
  rotate_left 1
  · (intro w hSw; go_simp; try with_reducible rfl)
  try simp only [Act.put, List.setIfInBounds_toArray, List.set_cons_zero, List.set_cons_succ]
  refine takeL 4 (v := ?_) rfl (by kernel_rfl) (by kernel_rfl) (by kernel_rfl) (fun _ _ _ h => h) (Or.inl ⟨by rfl, ?_⟩) hHeld ?_
  rotate_left 1
  · (intro w hSw; go_simp; try with_reducible rfl)
  try simp only [Act.put, List.setIfInBounds_toArray, List.set_cons_zero, List.set_cons_succ]
  refine takeL 5 (v := ?_) rfl (by kernel_rfl) (by kernel_rfl) (by kernel_rfl) (fun _ _ _ h => h) (Or.inl ⟨by rfl, ?_⟩) hHeld ?_
  rotate_left 1
  · (intro w hSw; go_simp; try with_reducible rfl)
  try simp only [Act.put, List.setIfInBounds_toArray, List.set_cons_zero, List.set_cons_succ]
  refine takeL 6 (v := ?_) rfl (by kernel_rfl) (by kernel_rfl) (by kernel_rfl) (fun _ _ _ h => h) (Or.inl ⟨by rfl, ?_⟩) hHeld ?_
  rotate_left 1
  · (intro w hSw; go_simp; try with_reducible rfl)
  try simp only [Act.put, List.setIfInBounds_toArray, List.set_cons_zero, List.set_cons_succ]
  refine takeL 7 (v := ?_) rfl (by kernel_rfl) (by kernel_rfl) (by kernel_rfl) (fun _ _ _ h => h) (Or.inl ⟨by rfl, ?_⟩) hHeld ?_
  rotate_left 1
  · (intro w hSw; go_simp; try with_reducible rfl)
  try simp only [Act.put, List.setIfInBounds_toArray, List.set_cons_zero, List.set_cons_succ]
  refine takeL 8 (v := ?_) rfl (by kernel_rfl) (by kernel_rfl) (by kernel_rfl) (fun _ _ _ h => h) (Or.inl ⟨by rfl, ?_⟩) hHeld ?_
  rotate_left 1
  · (intro w hSw; go_simp; try with_reducible rfl)
  try simp only [Act.put, List.setIfInBounds_toArray, List.set_cons_zero, List.set_cons_succ]
  refine takeL 9 (v := ?_) rfl (by kernel_rfl) (by kernel_rfl) (by kernel_rfl) (fun _ _ _ h => h) (Or.inl ⟨by rfl, ?_⟩) hHeld ?_
  rotate_left 1
  · (intro w hSw; have c3 := (HC3.out w _ _ hSw).1; go_simp; try with_reducible rfl)
  try simp only [Act.put, List.setIfInBounds_toArray, List.set_cons_zero, List.set_cons_succ]
  refine takeL 10 (v := ?_) rfl (by kernel_rfl) (by kernel_rfl) (by kernel_rfl) (fun _ _ _ h => h) (Or.inl ⟨by rfl, ?_⟩) hHeld ?_
  rotate_left 1
  · (intro w hSw; go_simp; try with_reducible rfl)
  try simp only [Act.put, List.setIfInBounds_toArray, List.set_cons_zero, List.set_cons_succ]
  refine takeL 11 (v := ?_) rfl (by kernel_rfl) (by kernel_rfl) (by kernel_rfl) (fun _ _ _ h => h) (Or.inl ⟨by rfl, ?_⟩) hHeld ?_
  rotate_left 1
  · (intro w hSw; go_simp; try with_reducible rfl)
  try simp only [Act.put, List.setIfInBounds_toArray, List.set_cons_zero, List.set_cons_succ]
  refine takeL 12 (v := ?_) rfl (by kernel_rfl) (by kernel_rfl) (by kernel_rfl) (fun _ _ _ h => h) (Or.inl ⟨by rfl, ?_⟩) hHeld ?_
  rotate_left 1
  · (intro w hSw; go_simp; try with_reducible rfl)
  try simp only [Act.put, List.setIfInBounds_toArray, List.set_cons_zero, List.set_cons_succ]
  refine takeL 13 (v := ?_) rfl (by kernel_rfl) (by kernel_rfl) (by kernel_rfl) (fun _ _ _ h => h) (Or.inl ⟨by rfl, ?_⟩) hHeld ?_
  rotate_left 1
  · (intro w hSw; go_simp; try with_reducible rfl)
  try simp only [Act.put, List.setIfInBounds_toArray, List.set_cons_zero, List.set_cons_succ]
  refine takeL 15 rfl (by kernel_rfl) (by kernel_rfl) (by kernel_rfl) (fun _ _ _ h => h) (yieldsIf_load_mid (by rfl) _ _ rfl _ _ rfl _ _ (fun w hSw => (HC3.out w _ _ hSw).2) Tryd.underlying39 rfl HI.out.2.2.2) hHeld ?_
  try simp only [Act.put, List.setIfInBounds_toArray, List.set_cons_zero, List.set_cons_succ]
  refine stepL 14 (by kernel_rfl) rfl (fun K hK => ?_)
  go_simp
  refine (master_any M _ key W0 B0.out.1.mt (by rw [HKL.out]; omega)).mono ?_
  rintro e W1 ⟨vk, rfl, hk1, hb1⟩
  show K _ _
  have B1 := Bx.mk (And.intro (B0.out.1.later hb1) (And.intro (B0.out.2.trans (hb1.mono (Nat.le_trans (Nat.le_of_eq HB.out.symm) B0.out.2.size))) hk1.key))
  clear hk1 hb1 B0
  refine hK.out _ _ (B1.out.1.rows _ (.head _)).1 (fun hHeld => ?_)
  clear hK K
  try simp only [Act.put, List.setIfInBounds_toArray, List.set_cons_zero, List.set_cons_succ]
  refine stepL 16 (by kernel_rfl) rfl (fun K hK => ?_)
  go_simp
  refine (HHo.out W1 vk B1.out.2.1 B1.out.2.2).mono ?_
  rintro e W2 ⟨rfl, hb2⟩
  show K _ _
  have B2 := Bx.mk (And.intro (B1.out.1.later hb2) (B1.out.2.1.trans (hb2.mono (Nat.le_trans (Nat.le_of_eq HB.out.symm) B1.out.2.1.size))))
  clear hb2 B1
  refine hK.out _ _ (B2.out.1.rows _ (.head _)).1 (fun hHeld => ?_)
  clear hK K
  try simp only [Act.put, List.setIfInBounds_toArray, List.set_cons_zero, List.set_cons_succ]
  refine takeL 17 (v := ?_) rfl (by kernel_rfl) (by kernel_rfl) (by kernel_rfl) (fun _ _ _ h => h) (Or.inl ⟨by rfl, ?_⟩) hHeld ?_
  rotate_left 1
  · (intro w hSw; go_simp; try with_reducible rfl)
  try simp only [Act.put, List.setIfInBounds_toArray, List.set_cons_zero, List.set_cons_succ]
  refine takeL 18 (v := ?_) rfl (by kernel_rfl) (by kernel_rfl) (by kernel_rfl) (fun _ _ _ h => h) (Or.inl ⟨by rfl, ?_⟩) hHeld ?_
  rotate_left 1
  · (intro w hSw; go_simp; try with_reducible rfl)
  try simp only [Act.put, List.setIfInBounds_toArray, List.set_cons_zero]
  refine wpAnyH_done (by kernel_rfl) ?_ _
  refine NoPanic.normal ?_
  clear hHeld
  try go_wp2
  go_ret
  exact ⟨rfl, B2.out.2⟩
end Go.Proofs.YtiengbmnfbbgoaaDoor
namespace Go.Proofs.YtiengbmnfbbgoaaDoor
open Go Go.RowKit
theorem row_rng {W : World} {g : Nat} {l : List Value} {t : TypeId} (h : W.heap[g]? = some (.cells l.toArray t (0, 0))) : W.rangeAt g 0 l := by
  intro j u hj
  show W.cell? ⟨g, 0 + j, none⟩ = some u
  rw [cell_of_row _ _ _ _ _ _ h, Nat.zero_add]
  simpa using hj
theorem partsR_one {W : World} {v : Value} {p : List UInt8} (h : Bytes W v p) (t : TypeId) : PartsR (W.alloc (.cells #[v] t)) (.slice (some ⟨W.heap.size, 0, none⟩) 1 1) [p] := by
  refine ⟨[v], .inr ⟨W.heap.size, 0, 1, rfl, fun j hj => ?_⟩, rfl, fun j hj => ?_⟩
  · obtain rfl : j = 0 := by simpa using hj
    rw [cell_of_row _ _ _ _ _ _ (hnew W _ _ rfl)]; rfl
  · obtain rfl : j = 0 := by simpa using hj
    exact h.later (below_a _)
set_option maxRecDepth 100000 in
set_option maxHeartbeats 1000000 in
theorem rsecret_any (tbl : List Value) (htb : u32s (kTab ++ hTab) = tbl.toArray) (key : List UInt8) (c : Cl) (vk : Value) (w : World) (hk : Bytes w vk key) (hkl : key.length ≤ 1000000) (hc : okC c = true) :
    Calls Tryd.prog 18 #[.agg tbl.toArray, vk, clV c] w fun e w' => e = .returned (.agg (u8s (secK key c))) ∧ Below w.heap.size w w' := by
  obtain ⟨z1, hz1⟩ : ∃ z, u8s (List.replicate 32 0) = z := ⟨_, rfl⟩
  have hz1v : ∀ W : World, (zeroValue 37).run Tryd.prog W = .ok (.agg z1) W := fun W => by rw [← hz1, zero32]; kernel_rfl
  have HZ1 := Bx.mk hz1
  have HK := Bx.mk hk
  have HTI : Bx ((Tryd.prog.info? 32).map (·.size) = some tbl.length) := Bx.mk (tbl_size3 htb)
  have HBy := Bx.mk fun (W : World) => rbytes_any c W hc
  have HDe := Bx.mk fun (W : World) (vp : Value) (h : Bytes W vk key) (hp : PartsR W vp [clB c]) => rderive_any tbl htb key tokL [clB c] vk vp W h hp hkl (by decide) (by simp) (by intro p hp; simp at hp; rw [hp, clB_length]; omega)
  have HE : Bx (secK key c = hmac key (frame [tokL, clB c])) := Bx.mk rfl
  have HL : Bx ((secK key c).length = 32) := Bx.mk (secK_length _ _)
  rw [← HE.out] at HDe
  generalize secK key c = sk at *
  have HI : Bx ((Tryd.prog.info? 37).map (·.size) = some (u8s sk).size ∧ (u8s sk).size = z1.size) := Bx.mk ⟨by rw [u8s_size, HL.out]; kernel_rfl, by rw [← HZ1.out, u8s_size, u8s_size, HL.out]; rfl⟩
  obtain ⟨a, cap, rfl, -⟩ := hk
  obtain ⟨n, hn⟩ : ∃ n, key.length = n := ⟨_, rfl⟩
  rw [hn] at HK HDe ⊢
  clear hz1 htb hkl hc HE hn
  have HCB : Bx ((clB c).length = 9) := Bx.mk (clB_length _)
  generalize clB c = cb at *
  obtain ⟨i, r, x, q⟩ := c
  unfold clV at HBy ⊢
  simp only at HBy ⊢
  obtain ⟨B, hB⟩ : ∃ B, w.heap.size = B := ⟨_, rfl⟩
  have H0 := Bx.mk (And.intro ((((KS.start w B hB).new (.cells tbl.toArray 32)).new (.cells #[.int .i64 i, .int .i64 r, .int .i64 x, .int .i64 q] 24)).new (.cells z1 37)) True.intro)
  rw [alloc_size, alloc_size, hB] at H0
  have HB := Bx.mk hB
  rw [hB]
  go_enter Tryd.func18, Tryd.ntmps18
  go_upto_region 1 with fail
  generalize ((w.alloc (.cells tbl.toArray 32)).alloc (.cells #[.int .i64 i, .int .i64 r, .int .i64 x, .int .i64 q] 24)).alloc (.cells z1 37) = w0 at *
  have B0 := Bx.mk (And.intro H0.out.1.drew (HK.out.later (by rw [HB.out]; exact H0.out.1.below.drew)))
  clear H0
  refine wp_region_noPanic ?_
  refine wp_region_held_drew (S := fun W => W.rangeAt B 0 tbl ∧ W.rangeAt (B + 1) 0 [.int .i64 i, .int .i64 r, .int .i64 x, .int .i64 q]) (by kernel_rfl) (⟨row_rng (B0.out.1.rows _ (.tail _ (.tail _ (.head _)))), row_rng (l := [.int .i64 i, .int .i64 r, .int .i64 x, .int .i64 q]) (B0.out.1.rows _ (.tail _ (.head _)))⟩) (fun hHeld => ?_)
  generalize w0.drew = W0 at *
  refine takeL 0 rfl (by kernel_rfl) (by kernel_rfl) (by kernel_rfl) (fun _ _ _ h => h) (yieldsIf_load_mid (by rfl) _ _ rfl _ _ rfl _ _ (fun w hSw => hSw.1) Tryd.underlying32 rfl HTI.out) hHeld ?_
  try simp only [Act.put, List.setIfInBounds_toArray, List.set_cons_zero, List.set_cons_succ]
  refine takeL 1 (v := ?_) rfl (by kernel_rfl) (by kernel_rfl) (by kernel_rfl) (fun _ _ _ h => h) (Or.inl ⟨by rfl, ?_⟩) hHeld ?_
  rotate_left 1
  · (intro w hSw; go_simp; try with_reducible rfl)
  try simp only [Act.put, List.setIfInBounds_toArray, List.set_cons_zero, List.set_cons_succ]
  refine takeL 2 rfl (by kernel_rfl) (by kernel_rfl) (by kernel_rfl) (fun _ _ _ h => h) (yieldsIf_load_mid (by rfl) _ _ rfl _ _ rfl _ _ (fun w hSw => hSw.2) Tryd.underlying24 rfl (by kernel_rfl)) hHeld ?_
  try simp only [Act.put, List.setIfInBounds_toArray, List.set_cons_zero, List.set_cons_succ]
  refine stepL 3 (by kernel_rfl) rfl (fun K hK => ?_)
  go_simp
  refine (HBy.out W0).mono ?_
  rintro e W1 ⟨v1, rfl, ho1, hb1⟩
  show K _ _
  have B1 := Bx.mk (And.intro (B0.out.1.later hb1) (And.intro (B0.out.2.later hb1) ho1.bytes))
  obtain ⟨a1, c1, hv1, -⟩ := ho1.bytes
  subst hv1
  rw [HCB.out] at B1
  clear ho1 hb1 B0
  rw [HCB.out]
  refine hK.out _ _ ⟨row_rng (B1.out.1.rows _ (.tail _ (.tail _ (.head _)))), row_rng (l := [.int .i64 i, .int .i64 r, .int .i64 x, .int .i64 q]) (B1.out.1.rows _ (.tail _ (.head _)))⟩ (fun hHeld => ?_)
  clear hK K
  try simp only [Act.put, List.setIfInBounds_toArray, List.set_cons_zero, List.set_cons_succ]
  refine stepL 4 (by kernel_rfl) rfl (fun K hK => ?_)
  go_simp
  show K _ _
  have B2 := Bx.mk (And.intro (B1.out.1.alloc (.cells #[.slice a1 9 c1] 22)) (And.intro (B1.out.2.1.later (below_a (.cells #[.slice a1 9 c1] 22))) (partsR_one B1.out.2.2 22)))
  clear B1
  refine hK.out _ _ ⟨row_rng (B2.out.1.rows _ (.tail _ (.tail _ (.head _)))), row_rng (l := [.int .i64 i, .int .i64 r, .int .i64 x, .int .i64 q]) (B2.out.1.rows _ (.tail _ (.head _)))⟩ (fun hHeld => ?_)
  clear hK K
  try simp only [Act.put, List.setIfInBounds_toArray, List.set_cons_zero, List.set_cons_succ]
  generalize W1.alloc (.cells #[.slice a1 9 c1] 22) = W2 at *
  generalize W1.heap.size = D1 at *
  refine stepL 5 (by kernel_rfl) rfl (fun K hK => ?_)
  go_simp
  refine (HDe.out W2 _ B2.out.2.1 B2.out.2.2).mono ?_
  rintro e W3 ⟨rfl, hb3⟩
  show K _ _
  have B3 := Bx.mk (And.intro (B2.out.1.later hb3) True.intro)
  clear hb3 B2
  refine hK.out _ _ ⟨row_rng (B3.out.1.rows _ (.tail _ (.tail _ (.head _)))), row_rng (l := [.int .i64 i, .int .i64 r, .int .i64 x, .int .i64 q]) (B3.out.1.rows _ (.tail _ (.head _)))⟩ (fun hHeld => ?_)
  clear hK K
  try simp only [Act.put, List.setIfInBounds_toArray, List.set_cons_zero, List.set_cons_succ]
  refine stepL 6 (by kernel_rfl) rfl (fun K hK => ?_)
  refine step_st rfl 37 _ _ rfl (B + 1 + 1) (u8s sk) (by rfl) (by rfl) (there_row (B3.out.1.rows _ (.head _)) 0 _ (by rw [HI.out.2]; omega)) HI.out.1 (one_u8s _) ?_
  have hr2 := heap_setCells_all (ds := u8s sk) (B3.out.1.rows _ (.head _)) HI.out.2
  have B4 := Bx.mk (And.intro (B3.out.1.set (kb_setCells (u8s sk).toList 0 W3) hr2 (by omega) (by intro y hy; simp at hy; rcases hy with rfl | rfl <;> (simp only; omega))) True.intro)
  clear hr2 B3
  refine hK.out _ _ ⟨row_rng (B4.out.1.rows _ (.tail _ (.tail _ (.head _)))), row_rng (l := [.int .i64 i, .int .i64 r, .int .i64 x, .int .i64 q]) (B4.out.1.rows _ (.tail _ (.head _)))⟩ (fun hHeld => ?_)
  clear hK K
  try simp only [Act.put]
  refine wpAnyH_done (by kernel_rfl) ?_ _
  refine NoPanic.normal ?_
  clear hHeld
  try go_wp2
  refine bodyPost_ret (results_cell_row rfl _ _ (B + 1 + 1) _ (u8s sk) _ _ rfl (B4.out.1.rows _ (.head _)) Tryd.underlying37 rfl HI.out.1) rfl ?_
  exact ⟨rfl, B4.out.1.below⟩
set_option maxRecDepth 100000 in
set_option maxHeartbeats 1000000 in
theorem rprove_any (tbl : List Value) (htb : u32s (kTab ++ hTab) = tbl.toArray) (s : List UInt8) (pss : List (List UInt8)) (vs vp : Value) (w : World) (hs : Bytes w vs s) (hp : PartsR w vp pss) (hl : s.length ≤ 1000000) (hn : pss.length ≤ 90) (hpl : ∀ p ∈ pss, p.length ≤ 10000) :
    Calls Tryd.prog 21 #[.agg tbl.toArray, vs, vp] w fun e w' => e = .returned (.agg (u8s (prvK s pss))) ∧ Below w.heap.size w w' := by
  obtain ⟨z1, hz1⟩ : ∃ z, u8s (List.replicate 32 0) = z := ⟨_, rfl⟩
  have hz1v : ∀ W : World, (zeroValue 37).run Tryd.prog W = .ok (.agg z1) W := fun W => by rw [← hz1, zero32]; kernel_rfl
  have HZ1 := Bx.mk hz1
  have HTI : Bx ((Tryd.prog.info? 32).map (·.size) = some tbl.length) := Bx.mk (tbl_size3 htb)
  have HDe : Bx (∀ W, Below w.heap.size w W → Calls Tryd.prog 40 #[.agg tbl.toArray, vs, .string ⟨prL.toArray⟩, vp] W fun e w' => e = .returned (.agg (u8s (prvK s pss))) ∧ Below W.heap.size W w') := Bx.mk fun W hb => rderive_any tbl htb s prL pss vs vp W (hs.later hb) (hp.later hb) hl (by decide) hn hpl
  have HL : Bx ((prvK s pss).length = 32) := Bx.mk (prvK_length _ _)
  generalize prvK s pss = sk at *
  have HI : Bx ((Tryd.prog.info? 37).map (·.size) = some (u8s sk).size ∧ (u8s sk).size = z1.size) := Bx.mk ⟨by rw [u8s_size, HL.out]; kernel_rfl, by rw [← HZ1.out, u8s_size, u8s_size, HL.out]; rfl⟩
  obtain ⟨a, cap, rfl, -⟩ := hs
  obtain ⟨ap, np, cp, rfl⟩ : ∃ a n c, vp = .slice a n c := by
    obtain ⟨ys, h, _⟩ := hp
    rcases h with ⟨rfl, _⟩ | ⟨g, o, cap, rfl, _⟩
    · exact ⟨_, _, _, rfl⟩
    · exact ⟨_, _, _, rfl⟩
  obtain ⟨n, hn1⟩ : ∃ n, s.length = n := ⟨_, rfl⟩
  rw [hn1] at HDe ⊢
  clear hz1 htb hl hn hpl hn1 hp
  obtain ⟨B, hB⟩ : ∃ B, w.heap.size = B := ⟨_, rfl⟩
  have H0 := Bx.mk (And.intro (((KS.start w B hB).new (.cells tbl.toArray 32)).new (.cells z1 37)) True.intro)
  rw [alloc_size, hB] at H0
  rw [hB] at HDe ⊢
  go_enter Tryd.func21, Tryd.ntmps21
  go_upto_region 1 with fail
  generalize (w.alloc (.cells tbl.toArray 32)).alloc (.cells z1 37) = w0 at *
  go_wp2_with (refine wpList_load_mid rfl 32 _ rfl B 0 (by rfl) tbl _ (row_rng (H0.out.1.rows _ (.tail _ (.head _)))) Tryd.underlying32 rfl HTI.out ?_)
  refine (HDe.out w0 H0.out.1.below).mono ?_
  rintro e w1 ⟨rfl, hb1⟩
  have H1 := Bx.mk (H0.out.1.later hb1)
  clear hb1 H0
  go_wp2_with (refine wpList_store_new rfl 37 _ _ rfl (B + 1) (u8s sk) z1 _ (by rfl) (by rfl) (H1.out.rows _ (.head _)) HI.out.2 HI.out.1 (one_u8s _) ?_; intro w3 hw8 hr8; have hg8 := Bx.mk (kb_of hw8); have HR8 := Bx.mk hr8; clear hw8 hr8)
  refine bodyPost_ret (results_cell_row rfl _ _ (B + 1) _ (u8s sk) _ _ rfl HR8.out Tryd.underlying37 rfl HI.out.1) rfl ?_
  exact ⟨rfl, H1.out.below.trans (grown_below hg8.out (by omega) H1.out.le)⟩
end Go.Proofs.YtiengbmnfbbgoaaDoor
namespace Go.Proofs.YtiengbmnfbbgoaaDoor
open Go Go.RowKit
theorem self_cl (d : Nat) (T : TypeId) (hT : T = 36 ∨ T = 24) (c : Cl) (W : World) : (Op.equalIn (d + 2) T (.agg (clC c)) (.agg (clC c))).run Tryd.prog W = .ok true W := by
  unfold clC
  rcases hT with rfl | rfl
  · go_simp
  · go_simp
theorem self_cl_eql (T : TypeId) (hT : T = 36 ∨ T = 24) (c : Cl) (W : World) : (binOp .eql T (.agg (clC c)) (.agg (clC c))).run Tryd.prog W = .ok (.bool true) W := by
  rw [run_eql_struct, self_cl 9998 T hT c W]
  rfl
theorem self_cl_neq (T : TypeId) (hT : T = 36 ∨ T = 24) (c : Cl) (W : World) : (binOp .neq T (.agg (clC c)) (.agg (clC c))).run Tryd.prog W = .ok (.bool false) W := by
  rw [run_neq_struct, self_cl 9998 T hT c W]
  rfl
theorem sec_size1 (W : World) : (sizeOf 5).run Tryd.prog W = .ok 1 W := by kernel_rfl
theorem sec_eql (l m : List UInt8) (hl : l.length = 32) (hm : m.length = 32) (W : World) : (binOp .eql 37 (.agg (u8s l)) (.agg (u8s m))).run Tryd.prog W = .ok (.bool (l == m)) W := by
  rw [u8s_cell, u8s_cell]
  exact Go.run_eql_bytes W 37 5 32 Tryd.underlying37 Tryd.underlying5 sec_size1 l m hl hm
theorem tk_left (c : Cl) (s : List UInt8) : (tkC c s).extract 0 4 = clC c := by
  apply Array.ext'
  rw [Array.toList_extract, tkC_list]
  simp [List.extract, clC]
theorem tk_right (c : Cl) (s : List UInt8) (h : s.length = 32) : (tkC c s).extract 4 36 = u8s s := by
  have h32 : (u8s s).toList.length = 32 := by rw [Array.length_toList, u8s_size, h]
  apply Array.ext'
  rw [Array.toList_extract, tkC_list, List.extract]
  rw [List.drop_append_of_le_length (by simp [clC])]
  rw [show List.drop 4 (clC c).toList = [] from rfl, List.nil_append, List.take_of_length_le (by rw [h32]; omega)]
theorem part_cl (c : Cl) (s : List UInt8) (W : World) : (part 36 (tkC c s) 0).run Tryd.prog W = .ok (.agg (clC c)) W := by
  have h1 : (isAgg 36).run Tryd.prog W = .ok true W := by kernel_rfl
  have h2 : (sizeOf 36).run Tryd.prog W = .ok 4 W := by kernel_rfl
  unfold part
  simp only [Sem.run_bind, h1, Result.andThen_ok, if_true, h2, Sem.run_pure, Nat.zero_add, tk_left]
theorem part_sec (c : Cl) (s : List UInt8) (h : s.length = 32) (W : World) : (part 37 (tkC c s) 4).run Tryd.prog W = .ok (.agg (u8s s)) W := by
  have h1 : (isAgg 37).run Tryd.prog W = .ok true W := by kernel_rfl
  have h2 : (sizeOf 37).run Tryd.prog W = .ok 32 W := by kernel_rfl
  unfold part
  simp only [Sem.run_bind, h1, Result.andThen_ok, if_true, h2, Sem.run_pure]
  rw [show 4 + 32 = 36 from rfl, tk_right c s h]
theorem tk_fields : ∃ f g : Field, (Tryd.prog.fieldsOf 39).toList = [f, g] ∧ f.name ≠ "_" ∧ f.type = 36 ∧ f.offset = 0 ∧ g.name ≠ "_" ∧ g.type = 37 ∧ g.offset = 4 :=
  ⟨(Tryd.prog.fieldsOf 39).toList.getD 0 default, (Tryd.prog.fieldsOf 39).toList.getD 1 default, by kernel_rfl, of_decide_eq_true (by kernel_rfl), by kernel_rfl, by kernel_rfl, of_decide_eq_true (by kernel_rfl), by kernel_rfl, by kernel_rfl⟩
theorem self_tk (c : Cl) (s : List UInt8) (h : s.length = 32) (W : World) : (Op.equalIn 10000 39 (.agg (tkC c s)) (.agg (tkC c s))).run Tryd.prog W = .ok true W := by
  rw [run_equalIn_struct W 9999 39 _ _ (by kernel_rfl) (by kernel_rfl)]
  obtain ⟨f, g, hf, n1, t1, o1, n2, t2, o2⟩ := tk_fields
  have e1 := self_cl 9997 36 (.inl rfl) c W
  have e2 := Go.run_equalIn_bytes (P := Tryd.prog) W 9997 37 5 32 Tryd.underlying37 Tryd.underlying5 sec_size1 s s h h
  rw [← u8s_cell] at e2
  rw [hf]
  simp only [Op.eqFields, n1, n2, ne_eq, not_false_eq_true, if_true, t1, o1, t2, o2, Sem.run_bind, part_cl, part_sec c s h, Result.andThen_ok, e1, e2, Bool.not_true, Bool.false_eq_true, if_false, beq_self_eq_true, Sem.run_pure]
theorem self_tk_eql (c : Cl) (s : List UInt8) (h : s.length = 32) (W : World) : (binOp .eql 39 (.agg (tkC c s)) (.agg (tkC c s))).run Tryd.prog W = .ok (.bool true) W := by
  rw [run_eql_struct, self_tk c s h W]
  rfl
theorem self_tk_neq (c : Cl) (s : List UInt8) (h : s.length = 32) (W : World) : (binOp .neq 39 (.agg (tkC c s)) (.agg (tkC c s))).run Tryd.prog W = .ok (.bool false) W := by
  rw [run_neq_struct, self_tk c s h W]
  rfl
end Go.Proofs.YtiengbmnfbbgoaaDoor
namespace Go.Proofs.YtiengbmnfbbgoaaDoor
open Go Go.RowKit
/-- A load of a whole array, where its guard is decided. -/
theorem wpList_load_roww {P : Program} {ops : Array Oper} {rest : List Oper} {o : Oper} {a : Act} {w : World} {Q : Exit → Act → World → Prop} (hw : Region.wanted o (yielded ops a.tmps) = true) (ty : TypeId) (x : Operand) (ho : o.op = .load ty x)
    (g : Nat) (hx : a.eval x = .pointer (some ⟨g, 0, none⟩)) (t : TypeId) (cs : Array Value) (fr : Nat × Nat) (d : TypeDesc) (hg : w.heap[g]? = some (.cells cs t fr))
    (hu : P.underlying ty = some d) (hd : (match d with | .struct _ | .array _ _ => true | _ => false) = true) (hi : (P.info? ty).map (·.size) = some cs.size)
    (h : wpList P ops Q rest (a.put o.dst (.agg cs)) w) : wpList P ops Q (o :: rest) a w := by
  refine wpList_step fun K hK => ?_
  rw [if_pos hw]
  exact wp_load_row ty x ho g hx t cs fr d hg hu hd hi (hK _ _ h)
/-- A build, where its guard is decided. -/
theorem wpList_buildw {P : Program} {ops : Array Oper} {rest : List Oper} {o : Oper} {a : Act} {w : World} {Q : Exit → Act → World → Prop} (hw : Region.wanted o (yielded ops a.tmps) = true) (t : TypeId) (parts : Array (Nat × Operand)) (ho : o.op = .build t parts)
    (cells : Array Value) (hf : P.built t (parts.map fun (i, x) => (i, a.eval x)).toList = some cells)
    (h : wpList P ops Q rest (a.put o.dst (.agg cells)) w) : wpList P ops Q (o :: rest) a w := by
  refine wpList_step fun K hK => ?_
  rw [if_pos hw]
  refine wp_build t parts ho (by rw [hf]; rfl) ?_
  rw [hf]
  exact hK _ _ h
end Go.Proofs.YtiengbmnfbbgoaaDoor
