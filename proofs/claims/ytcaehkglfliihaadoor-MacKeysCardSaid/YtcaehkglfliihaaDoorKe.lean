/-
  The walk of the statement on keys.
-/
import Derived.Test.YtcaehkglfliihaaDoorKd
namespace Go.Proofs.YtcaehkglfliihaaDoor
open Go Go.RowKit
theorem kb_set (w : World) (g o : Nat) (v : Value) : w.grownBy (w.setCell ⟨g, o, none⟩ v) (some g) := ⟨rfl, rfl, rfl, by simp, fun i _ hne => heap_setCell_other _ _ _ _ (fun e => hne (by rw [e]))⟩
def FewZ (w0 w : World) (pss : List (List UInt8)) (e : Ending) (w' : World) : Prop := ∃ vo va xs, e = .returned (.tuple #[vo, va]) ∧ Vals w0 xs (cutQ pss) ∧ OwnP w' w.heap.size vo xs ∧ OwnB w' w.heap.size va (cutQ pss).flatten ∧ Below w.heap.size w w'
def FewRelZ (w0 w : World) (pss : List (List UInt8)) (o al i : Value) (wr : World) : Prop :=
  ∃ k xs, k ≤ pss.length ∧ k ≤ 8 ∧ i = .int .i64 ((k : Nat) : Int) ∧ Vals w0 xs ((pss.take k).map (·.take 60)) ∧ OwnP wr w.heap.size o xs ∧ OwnB wr w.heap.size al ((pss.take k).map (·.take 60)).flatten ∧ Below w.heap.size w wr
theorem cutQ_part (pss : List (List UInt8)) : ∀ p ∈ cutQ pss, p.length ≤ 60 := by
  intro p hp
  unfold cutQ at hp
  obtain ⟨q, _, rfl⟩ := List.mem_map.1 hp
  rw [List.length_take]
  omega
set_option maxRecDepth 100000 in
set_option maxHeartbeats 1000000 in
theorem few2_from (pss : List (List UInt8)) (v : Value) (w0 w : World) (hb0 : Below w0.heap.size w0 w) (hv : Parts w0 v pss) (hn : pss.length ≤ 9223372036854775807) (hp : ∀ p ∈ pss, p.length ≤ 9223372036854775807) :
    Calls Tryd.prog 9 #[v] w (FewZ w0 w pss) := by
  have HV := Bx.mk hv
  have HP := Bx.mk hp
  have HB0 : Bx (∀ W, Below w.heap.size w W → Below w0.heap.size w0 W) := Bx.mk (fun W h => hb0.trans (h.mono hb0.size))
  clear hb0
  obtain ⟨a, cap, rfl, -⟩ := hv
  obtain ⟨n, hnn⟩ : ∃ n, pss.length = n := ⟨_, rfl⟩
  have HN := Bx.mk hnn
  rw [hnn] at HV hn ⊢
  clear hnn hp
  have hn1 : (n : Int) ≤ 9223372036854775807 := by omega
  go_enter Tryd.func9, Tryd.ntmps9
  go_wp2
  go_loopw [4, 5, 6] (fun o al i wr => FewRelZ w0 w pss o al i wr) (fun _ _ i _ => 8 - (intOf i).toNat)
  case atStart => exact ⟨0, [], by omega, by omega, rfl, ⟨rfl, fun j hj => by simp at hj⟩, ⟨rfl, .inl ⟨rfl, rfl⟩⟩, OwnB.nil _ _, Below.refl _ _⟩
  case round =>
    obtain ⟨k, xs, hk, hk8, rfl, hvals, hop, hob, hbel⟩ := hrel
    have hkn : k ≤ n := by have := HN.out; omega
    have HA := Bx.mk (And.intro hvals (And.intro hop (And.intro hob hbel)))
    clear hvals hop hob hbel hk
    by_cases hlt : k < n ∧ k < 8
    · obtain ⟨hkn', hk8'⟩ := hlt
      have t1 : (k : Int) < (n : Int) := by omega
      have t2 : (k : Int) < 8 := by omega
      obtain ⟨a', cap', hv', hr'⟩ := HV.out
      injection hv' with e1 e2 e3
      obtain ⟨p, o, ha, hcell⟩ := hr' (by omega)
      subst e1
      subst ha
      obtain ⟨x, hx, hxb⟩ := hcell k (by rw [HN.out]; exact hkn')
      have HXB := Bx.mk hxb
      have hcw : wr.cell? ⟨p, o + k, none⟩ = some x := by
        have hlt := World.block_lt_of_cell? _ _ hx
        rw [(HB0.out _ HA.out.2.2.2).cell (p := ⟨p, o + k, none⟩) hlt]
        exact hx
      obtain ⟨ax, cx, hxf, hxc, hxn⟩ := bytes_form hxb
      have HQl : Bx ((pss.getD k []).length ≤ 9223372036854775807) := Bx.mk (by
        have hm : pss.getD k [] ∈ pss := by
          have h : k < pss.length := by rw [HN.out]; exact hkn'
          rw [List.getD_eq_getElem?_getD, List.getElem?_eq_getElem h]
          exact List.getElem_mem h
        exact HP.out _ hm)
      have HSc : Bx ((pss.take (k + 1)).map (·.take 60) = (pss.take k).map (·.take 60) ++ [(pss.getD k []).take 60]) := Bx.mk (few_succQ pss k (by rw [HN.out]; exact hkn'))
      have HFl := Bx.mk (few_lenQ pss k)
      generalize pss.getD k [] = pk at *
      subst hxf
      obtain ⟨pl, hpl⟩ : ∃ pl, pk.length = pl := ⟨_, rfl⟩
      have HPL := Bx.mk hpl
      rw [hpl] at hcw hxc HQl
      have HXB2 : Bx (Bytes w0 (.slice ax pl cx) pk) := Bx.mk (by rw [← hpl]; exact HXB.out)
      obtain ⟨mm, hmm⟩ : ∃ mm, mm = min pl 60 := ⟨_, rfl⟩
      have m1 : (if (60 : Int) < (pl : Int) then (60 : Int) else (pl : Int)) = (mm : Int) := by split <;> omega
      have s1 := fun W => cut_bytes ax pl cx mm (by omega) (by omega) hxn W
      have HB2 : Bx (Bytes w0 (.slice ax mm cx) (pk.take 60)) := Bx.mk (by
        have h := HXB2.out.take mm (by omega)
        have e : pk.take mm = pk.take 60 := by
          rw [hmm, ← hpl, ← List.take_take, List.take_of_length_le (by rw [List.length_take]; omega)]
        rw [e] at h
        exact h)
      have hpl1 : (pl : Int) ≤ 9223372036854775807 := by have := HQl.out; omega
      clear hx hxb hcell hr' e2 e3 HXB hxc hxn hpl hmm HQl
      go_wp2
      go_quiet (fail)
      clear s1 m1 hpl1 hcw
      have HA2 : Bx (OwnP (wr.drewN nq) w.heap.size u4 xs ∧ OwnB (wr.drewN nq) w.heap.size u5 ((pss.take k).map (·.take 60)).flatten ∧ Below w.heap.size w (wr.drewN nq)) := Bx.mk ⟨HA.out.2.1, HA.out.2.2.1, below_drewN HA.out.2.2.2 _⟩
      have HVl := Bx.mk HA.out.1
      clear HA
      generalize wr.drewN nq = wq at *
      have HXl : Bx (xs.length ≤ 1000) := Bx.mk (by have := HVl.out.1; rw [List.length_map, List.length_take] at this; omega)
      go_wp2_with (first | (refine wpList_apP rfl _ _ rfl w.heap.size _ xs (by rfl) (HA2.out.1.a _) wq.heap.size (.slice ax mm cx) (by rfl) (hnew _ _ _ rfl) rfl HXl.out (Nat.le_trans HA2.out.2.2.size (below_a _).size) ?_; intro v1 w1 h1 g1; have H1 : Bx (OwnP w1 w.heap.size v1 (xs ++ [.slice ax mm cx]) ∧ OwnB w1 w.heap.size u5 ((pss.take k).map (·.take 60)).flatten ∧ Below w.heap.size w w1) := Bx.mk (few1 HA2.out h1 g1); clear h1 g1) | (refine wpList_ap rfl _ _ rfl w.heap.size _ ((pss.take k).map (·.take 60)).flatten (by rfl) H1.out.2.1 _ (pk.take 60) (by rfl) (HB2.out.later (HB0.out _ H1.out.2.2)) (by have := HFl.out; rw [List.length_take]; omega) H1.out.2.2.size ?_; intro v2 w2 h1 g1 _; have H2 : Bx (OwnP w2 w.heap.size v1 (xs ++ [.slice ax mm cx]) ∧ OwnB w2 w.heap.size v2 ((pss.take (k + 1)).map (·.take 60)).flatten ∧ Below w.heap.size w w2) := Bx.mk (few2 H1.out (by rw [HSc.out, List.flatten_append, List.flatten_singleton]; exact h1) g1); clear h1 g1))
      go_roundw
      case rel => exact ⟨k + 1, xs ++ [.slice ax mm cx], by have := HN.out; omega, by omega, by go_num, by rw [HSc.out]; exact HVl.out.snoc HB2.out, H2.out⟩
      case measure => simp [intOf]; omega
    · have HE : Bx ((pss.take k).map (·.take 60) = cutQ pss) := Bx.mk (by
        unfold cutQ
        by_cases h : k = 8
        · rw [h]
        · have h1 : pss.length ≤ k := by rw [HN.out]; omega
          rw [List.take_of_length_le h1, List.take_of_length_le (by omega)])
      have HF : Bx (Vals w0 xs (cutQ pss) ∧ OwnP wr w.heap.size u4 xs ∧ OwnB wr w.heap.size u5 (cutQ pss).flatten ∧ Below w.heap.size w wr) := Bx.mk (by rw [← HE.out]; exact HA.out)
      clear HA HE
      by_cases h1 : k < n
      · have t1 : (k : Int) < (n : Int) := by omega
        have t2 : ¬ (k : Int) < 8 := by omega
        go_wp2
        go_ret2
        exact ⟨u4, u5, xs, rfl, HF.out⟩
      · have t1 : ¬ (k : Int) < (n : Int) := by omega
        go_wp2
        go_ret2
        exact ⟨u4, u5, xs, rfl, HF.out⟩
set_option maxRecDepth 100000 in
set_option maxHeartbeats 4000000 in
theorem keys_any (key l : List UInt8) (pss : List (List UInt8)) (v vp : Value) (w : World) (hv : Bytes w v key) (hp : Parts w vp pss) (hl : key.length ≤ 9223372036854775807) (hls : l.length ≤ 9223372036854775807) (hn : pss.length ≤ 9223372036854775807) (hpl : ∀ p ∈ pss, p.length ≤ 9223372036854775807) (hTab : Tab w) (hg : 0 < w.heap.size) :
    Calls Tryd.prog 3 #[v, .string ⟨l.toArray⟩, vp] w fun e w' => e = .returned (.bool true) ∧ Below w.heap.size w w' := by
  have HV := Bx.mk hv
  have HP := Bx.mk (And.intro hp (And.intro hn hpl))
  have HA := Bx.mk hTab
  obtain ⟨a, cap, rfl, hc, hnone, -⟩ := hv
  have e : (⟨l.toArray⟩ : ByteArray).size = l.length := rfl
  obtain ⟨n, hnn⟩ : ∃ n, key.length = n := ⟨_, rfl⟩
  obtain ⟨k, hkk⟩ : ∃ k, l.length = k := ⟨_, rfl⟩
  obtain ⟨m, hm⟩ : ∃ m, m = min n 150 := ⟨_, rfl⟩
  obtain ⟨q, hq⟩ : ∃ q, q = min k 60 := ⟨_, rfl⟩
  have m1 : (if (150 : Int) < (n : Int) then (150 : Int) else (n : Int)) = (m : Int) := by split <;> omega
  have q1 : (if (60 : Int) < (k : Int) then (60 : Int) else (k : Int)) = (q : Int) := by split <;> omega
  have s1 := fun W => cut_bytes a n cap m (by omega) (by omega) hnone W
  have s2 := cut_str l q
  rw [hnn] at hl hc HV ⊢
  have HB : Bx (Bytes w (.slice a m cap) (key.take m)) := Bx.mk (HV.out.take m (by omega))
  have HBL : Bx ((key.take m).length ≤ 150 ∧ (l.take q).length ≤ 60) := Bx.mk (by rw [List.length_take, List.length_take]; omega)
  generalize key.take m = x at *
  generalize l.take q = t at *
  have hn1 : (n : Int) ≤ 9223372036854775807 := by omega
  have hk1 : (k : Int) ≤ 9223372036854775807 := by omega
  have hq1 : (q : Int) ≤ (k : Int) := by omega
  rw [hkk] at e
  clear hnn hkk hTab hnone hm hq hl hls hc HV hp hn hpl
  go_enter Tryd.func3, Tryd.ntmps3
  go_upto_region 1 with (fail)
  refine wp_region_noPanic ?_
  refine wp_region_held_drew (S := fun W => Bx (Below w.heap.size w W)) (by kernel_rfl) (Bx.mk (Below.refl _ _).drew) (fun hHeld => ?_)
  refine takeL 1 (v := ?_) rfl (by kernel_rfl) (by kernel_rfl) (by kernel_rfl) (fun _ _ _ h => h) (Or.inl ⟨by rfl, ?_⟩) hHeld ?_
  rotate_left 1
  · (intro w hSw; go_simp; try with_reducible rfl)
  try simp only [Act.put, List.setIfInBounds_toArray, List.set_cons_zero, List.set_cons_succ]
  refine takeL 2 (v := ?_) rfl (by kernel_rfl) (by kernel_rfl) (by kernel_rfl) (fun _ _ _ h => h) (Or.inl ⟨by rfl, ?_⟩) hHeld ?_
  rotate_left 1
  · (intro w hSw; go_simp; try with_reducible rfl)
  try simp only [Act.put, List.setIfInBounds_toArray, List.set_cons_zero, List.set_cons_succ]
  refine takeL 3 (v := ?_) rfl (by kernel_rfl) (by kernel_rfl) (by kernel_rfl) (fun _ _ _ h => h) (Or.inl ⟨by rfl, ?_⟩) hHeld ?_
  rotate_left 1
  · (intro w hSw; go_simp; try with_reducible rfl)
  try simp only [Act.put, List.setIfInBounds_toArray, List.set_cons_zero, List.set_cons_succ]
  refine takeL 4 (v := ?_) rfl (by kernel_rfl) (by kernel_rfl) (by kernel_rfl) (fun _ _ _ h => h) (Or.inl ⟨by rfl, ?_⟩) hHeld ?_
  rotate_left 1
  · (intro w hSw; go_simp; try with_reducible rfl)
  try simp only [Act.put, List.setIfInBounds_toArray, List.set_cons_zero, List.set_cons_succ]
  refine takeL 5 (v := ?_) rfl (by kernel_rfl) (by kernel_rfl) (by kernel_rfl) (fun _ _ _ h => h) (Or.inl ⟨by rfl, ?_⟩) hHeld ?_
  rotate_left 1
  · (intro w hSw; go_simp; try with_reducible rfl)
  try simp only [Act.put, List.setIfInBounds_toArray, List.set_cons_zero, List.set_cons_succ]
  refine takeL 7 (v := ?_) rfl (by kernel_rfl) (by kernel_rfl) (by kernel_rfl) (fun _ _ _ h => h) (Or.inl ⟨by rfl, ?_⟩) hHeld ?_
  rotate_left 1
  · (intro w hSw; go_simp; try with_reducible rfl)
  try simp only [Act.put, List.setIfInBounds_toArray, List.set_cons_zero, List.set_cons_succ]
  refine takeL 8 (v := ?_) rfl (by kernel_rfl) (by kernel_rfl) (by kernel_rfl) (fun _ _ _ h => h) (Or.inl ⟨by rfl, ?_⟩) hHeld ?_
  rotate_left 1
  · (intro w hSw; go_simp; try with_reducible rfl)
  try simp only [Act.put, List.setIfInBounds_toArray, List.set_cons_zero, List.set_cons_succ]
  refine takeL 9 (v := ?_) rfl (by kernel_rfl) (by kernel_rfl) (by kernel_rfl) (fun _ _ _ h => h) (Or.inl ⟨by rfl, ?_⟩) hHeld ?_
  rotate_left 1
  · (intro w hSw; go_simp; try with_reducible rfl)
  try simp only [Act.put, List.setIfInBounds_toArray, List.set_cons_zero, List.set_cons_succ]
  refine takeL 10 (v := ?_) rfl (by kernel_rfl) (by kernel_rfl) (by kernel_rfl) (fun _ _ _ h => h) (Or.inl ⟨by rfl, ?_⟩) hHeld ?_
  rotate_left 1
  · (intro w hSw; go_simp; try with_reducible rfl)
  try simp only [Act.put, List.setIfInBounds_toArray, List.set_cons_zero, List.set_cons_succ]
  refine takeL 11 (v := ?_) rfl (by kernel_rfl) (by kernel_rfl) (by kernel_rfl) (fun _ _ _ h => h) (Or.inl ⟨by rfl, ?_⟩) hHeld ?_
  rotate_left 1
  · (intro w hSw; go_simp; try with_reducible rfl)
  try simp only [Act.put, List.setIfInBounds_toArray, List.set_cons_zero, List.set_cons_succ]
  refine stepL 0 (by kernel_rfl) rfl (fun K hK => ?_)
  go_simp
  have h1 : Bx (OwnB ((w.drew).alloc (.cells #[] 5)) w.heap.size (.slice (some ⟨w.drew.heap.size, 0, none⟩) 0 0) [] ∧ Below w.heap.size w ((w.drew).alloc (.cells #[] 5))) := Bx.mk ⟨own_empty _ _ (Nat.le_refl _), (Below.refl _ _).drew.alloc (Nat.le_refl _) _⟩
  refine hK.out _ _ (Bx.mk h1.out.2) (fun hHeld => ?_)
  clear hK K
  try simp only [Act.put, List.setIfInBounds_toArray, List.set_cons_zero, List.set_cons_succ]
  refine stepL 6 (by kernel_rfl) rfl (fun K hK => ?_)
  refine step_ap rfl _ _ rfl w.heap.size _ [] (by rfl) h1.out.1 _ x (by rfl) (HB.out.later h1.out.2) (by have := HBL.out; simp; omega) (by exact h1.out.2.size) ?_
  intro v1 w1 ho1 hg1 _
  have H1 : Bx (OwnB w1 w.heap.size v1 x ∧ Below w.heap.size w w1) := Bx.mk ⟨ho1, h1.out.2.trans (own_below h1.out.1 hg1 h1.out.2.size)⟩
  clear ho1 hg1
  refine hK.out _ _ (Bx.mk H1.out.2) (fun hHeld => ?_)
  clear hK K h1
  try simp only [Act.put, List.setIfInBounds_toArray, List.set_cons_zero, List.set_cons_succ]
  refine takeL 12 (v := ?_) rfl (by kernel_rfl) (by kernel_rfl) (by kernel_rfl) (fun _ _ _ h => h) (Or.inl ⟨by rfl, ?_⟩) hHeld ?_
  rotate_left 1
  · (intro w hSw; go_simp; try with_reducible rfl)
  try simp only [Act.put, List.setIfInBounds_toArray, List.set_cons_zero, List.set_cons_succ]
  refine takeL 13 (v := ?_) rfl (by kernel_rfl) (by kernel_rfl) (by kernel_rfl) (fun _ _ _ h => h) (Or.inl ⟨by rfl, ?_⟩) hHeld ?_
  rotate_left 1
  · (intro w hSw; go_simp; try with_reducible rfl)
  try simp only [Act.put, List.setIfInBounds_toArray, List.set_cons_zero, List.set_cons_succ]
  refine wpAnyH_done (by kernel_rfl) ?_ _
  clear hHeld s1 s2 m1 q1 hn1 hk1 hq1 e
  refine NoPanic.normal ?_
  go_wp2_with fail
  refine (few2_from pss vp w w1 H1.out.2 HP.out.1 HP.out.2.1 HP.out.2.2).mono ?_
  rintro e w2 ⟨vo, va, us, rfl, hvals, hop, hob, hbel⟩
  have HVs := Bx.mk hvals
  have H2 : Bx (OwnB w2 w.heap.size v1 x ∧ Tab w2 ∧ Below w.heap.size w w2 ∧ OwnP w2 w1.heap.size vo us ∧ OwnB w2 w1.heap.size va (cutQ pss).flatten ∧ w1.heap.size ≤ w2.heap.size ∧ (∀ g, v1.ownBlock = some g → g < w1.heap.size)) := Bx.mk ⟨H1.out.1.later hbel (fun g hg => (H1.out.1.lt g hg).1), HA.out.later (H1.out.2.trans (hbel.mono H1.out.2.size)) hg, H1.out.2.trans (hbel.mono H1.out.2.size), hop, hob, hbel.size, fun g hg => (H1.out.1.lt g hg).1⟩
  have HC := Bx.mk (And.intro (cut_totalQ pss) (cutQ_part pss))
  clear hvals hop hob hbel HA HB H1
  obtain ⟨tbl, htb⟩ : ∃ tbl : List Value, u32s (kTab ++ hTab) = tbl.toArray := ⟨_, rfl⟩
  have HTb := Bx.mk htb
  go_wp2_with fail
  refine (make_any w2).mono ?_
  rintro e w3 ⟨rfl, hb3⟩
  have H3 : Bx (OwnB w3 w.heap.size v1 x ∧ Tab w3 ∧ Below w.heap.size w w3 ∧ OwnP w3 w1.heap.size vo us ∧ OwnB w3 w1.heap.size va (cutQ pss).flatten ∧ w1.heap.size ≤ w3.heap.size ∧ (∀ g, v1.ownBlock = some g → g < w1.heap.size)) := Bx.mk ⟨H2.out.1.later hb3 (fun g hg => (H2.out.1.lt g hg).1), H2.out.2.1.later hb3 (Nat.lt_of_lt_of_le hg H2.out.2.2.1.size), H2.out.2.2.1.trans (hb3.mono H2.out.2.2.1.size), H2.out.2.2.2.1.later hb3 (fun g hg => (H2.out.2.2.2.1.lt g hg).1), H2.out.2.2.2.2.1.later hb3 (fun g hg => (H2.out.2.2.2.2.1.lt g hg).1), Nat.le_trans H2.out.2.2.2.2.2.1 hb3.size, H2.out.2.2.2.2.2.2⟩
  clear hb3 H2
  rw [htb]
  have HT30 : Bx ((Tryd.prog.info? 30).map (·.size) = some tbl.toArray.size) := Bx.mk (tbl_size2 htb)
  obtain ⟨zt, hzt⟩ : ∃ zc, u32s (List.replicate 72 0) = zc := ⟨_, rfl⟩
  have hztv : ∀ W : World, (zeroValue 30).run Tryd.prog W = .ok (.agg zt) W := fun W => by rw [← hzt]; kernel_rfl
  have HZT : Bx (tbl.toArray.size = zt.size) := Bx.mk (by rw [← htb, ← hzt]; simp [u32s]; decide)
  have HTo : Bx (tbl.toArray.all (·.oneCell') = true) := Bx.mk (by rw [← htb]; exact one_u32s _)
  clear hzt htb
  go_upto_region 4 with (refine wpList_store_var rfl 30 _ _ rfl w3 _ _ rfl (by rfl) tbl.toArray (by rfl) HZT.out HT30.out HTo.out ?_; intro w4 hb4 hr4 hl4)
  have H4 : Bx (OwnB w4 w.heap.size v1 x ∧ Tab w4 ∧ Below w.heap.size w w4 ∧ OwnP w4 w1.heap.size vo us ∧ OwnB w4 w1.heap.size va (cutQ pss).flatten ∧ w1.heap.size ≤ w3.heap.size ∧ (∀ g, v1.ownBlock = some g → g < w1.heap.size) ∧ w4.heap[w3.heap.size]? = some (.cells tbl.toArray 30 (0, 0)) ∧ w3.heap.size < w4.heap.size) := Bx.mk ⟨H3.out.1.later hb4 (fun g hg => (H3.out.1.lt g hg).1), H3.out.2.1.later hb4 (Nat.lt_of_lt_of_le hg H3.out.2.2.1.size), H3.out.2.2.1.trans (hb4.mono H3.out.2.2.1.size), H3.out.2.2.2.1.later hb4 (fun g hg => (H3.out.2.2.2.1.lt g hg).1), H3.out.2.2.2.2.1.later hb4 (fun g hg => (H3.out.2.2.2.2.1.lt g hg).1), H3.out.2.2.2.2.2.1, H3.out.2.2.2.2.2.2, hr4, hl4⟩
  clear hb4 hr4 hl4 H3 HZT HTo hztv
  obtain ⟨al, hal⟩ : ∃ al, (cutQ pss).flatten = al := ⟨_, rfl⟩
  have HAl := Bx.mk hal
  rw [hal] at H4
  have HLn : Bx ((cutQ pss).length ≤ 8 ∧ al.length ≤ 480) := Bx.mk (by rw [← hal]; exact HC.out.1)
  clear hal
  generalize w3.heap.size = T at *
  generalize w1.heap.size = b1 at *
  obtain ⟨a0, c0, hv1, -, -⟩ := bytes_form H4.out.1.bytes
  obtain ⟨n0, hn0⟩ : ∃ n, x.length = n := ⟨_, rfl⟩
  have HN0 := Bx.mk hn0
  rw [hn0] at hv1
  clear hn0
  subst hv1
  go_wp2_with fail
  refine (new_any x _ w4 H4.out.1.bytes (by have := HBL.out; omega)).mono ?_
  rintro e w5 ⟨pk, rfl, hk5, hb5⟩
  have H5 : Bx (KS w b1 T tbl us vo va pk x al w5 ∧ OwnB w5 w.heap.size (.slice a0 n0 c0) x) := Bx.mk ⟨⟨H4.out.2.2.1.trans (hb5.mono H4.out.2.2.1.size), H4.out.2.1.later hb5 (Nat.lt_of_lt_of_le hg H4.out.2.2.1.size), H4.out.2.2.2.1.later hb5 (fun g hg => (H4.out.2.2.2.1.lt g hg).1), H4.out.2.2.2.2.1.later hb5 (fun g hg => (H4.out.2.2.2.2.1.lt g hg).1), hk5.weak (by have := H4.out.2.2.2.2.2; omega), Nat.lt_of_lt_of_le H4.out.2.2.2.2.2.2.2.2 hb5.size, H4.out.2.2.2.2.2.1, by rw [hb5.block _ H4.out.2.2.2.2.2.2.2.2]; exact H4.out.2.2.2.2.2.2.2.1⟩, H4.out.1.later hb5 (fun g hg => (H4.out.1.lt g hg).1)⟩
  have HOb : Bx (∀ g, (Value.slice a0 n0 c0).ownBlock = some g → g < b1) := Bx.mk H4.out.2.2.2.2.2.2.1
  clear hk5 hb5 H4
  obtain ⟨ap, cp, hvo, -⟩ := own_parts H5.out.1.own (HVs.out.later H5.out.1.below)
  obtain ⟨aq, cq, hva, -, -⟩ := bytes_form H5.out.1.all.bytes
  obtain ⟨np, hnp⟩ : ∃ n, (cutQ pss).length = n := ⟨_, rfl⟩
  obtain ⟨nq2, hnq2⟩ : ∃ n, al.length = n := ⟨_, rfl⟩
  rw [hnp] at hvo
  rw [hnq2] at hva
  subst hvo
  subst hva
  have HPs : Bx (PartsR w5 (.slice ap np cp) (cutQ pss)) := Bx.mk ⟨us, own_rowP H5.out.1.own, HVs.out.later H5.out.1.below⟩
  clear hnp hnq2
  go_wp2
  refine loopKz a0 n0 c0 _ _ _ _ _ w5 x H5.out.2.bytes HN0.out (by have h1 := HN0.out; have h2 := HBL.out; omega) _ _ ⟨⟨⟨rfl, rfl⟩, rfl, rfl, rfl, rfl, rfl, rfl⟩, rfl, rfl, rfl⟩ ?_
  intro a' hKF h11
  obtain ⟨fx, rfl, hfx⟩ := open148 hKF.fr
  have e0 := (hfx 0).symm.trans hKF.s0
  have e1 := (hfx 1).symm.trans hKF.s1
  have e7 := (hfx 7).symm.trans hKF.s7
  have e8 := (hfx 8).symm.trans hKF.s8
  have e9 := (hfx 9).symm.trans hKF.s9
  have e10 := (hfx 10).symm.trans hKF.s10
  have e11 := (hfx 11).symm.trans h11
  clear hKF hfx h11
  rw [e0, e1, e7, e8, e9, e10, e11]
  clear e0 e1 e7 e8 e9 e10 e11
  have HHd : Bx (∀ W, Below w5.heap.size w5 W → Calls Tryd.prog 12 #[.agg tbl.toArray, (.slice a0 n0 c0), .string ⟨t.toArray⟩, .slice ap np cp] W fun e W' => e = .returned (.agg (u8s (hmac x (frame (t :: cutQ pss))))) ∧ Below W.heap.size W W') := Bx.mk (fun W hb => rderive_any tbl HTb.out x t (cutQ pss) _ _ W (H5.out.2.bytes.later hb) (HPs.out.later hb) (by have := HBL.out; omega) (by have := HBL.out; omega) (by have := HLn.out; omega) (fun p hp => by have := HC.out.2 p hp; omega))
  have HHs : Bx (∀ W, Below w5.heap.size w5 W → Calls Tryd.prog 12 #[.agg tbl.toArray, (.slice a0 n0 c0), .string ⟨prt.toArray⟩, .slice none 0 0] W fun e W' => e = .returned (.agg (u8s (hmac x (frame [prt])))) ∧ Below W.heap.size W W') := Bx.mk (fun W hb => rderive_any tbl HTb.out x prt [] _ _ W (H5.out.2.bytes.later hb) ⟨[], .inl ⟨rfl, rfl⟩, rfl, fun j hj => absurd hj (by simp)⟩ (by have := HBL.out; omega) (by decide) (by simp) (by simp))
  have HWl : Bx ((hmac x (frame (t :: cutQ pss))).length = 32) := Bx.mk (hmac_length _ _)
  have HSl : Bx ((hmac x (frame [prt])).length = 32) := Bx.mk (hmac_length _ _)
  generalize hwant : hmac x (frame (t :: cutQ pss)) = want at *
  generalize hshort : hmac x (frame [prt]) = short at *
  have HWS := Bx.mk (And.intro hwant hshort)
  clear hwant hshort
  obtain ⟨z32, hz32⟩ : ∃ z, u8s (List.replicate 32 0) = z := ⟨_, rfl⟩
  have hz32v : ∀ W : World, (zeroValue 34).run Tryd.prog W = .ok (.agg z32) W := fun W => by rw [← hz32, zero32]; kernel_rfl
  obtain ⟨z8, hz8⟩ : ∃ z, u8s (List.replicate 8 0) = z := ⟨_, rfl⟩
  have hz8v : ∀ W : World, (zeroValue 36).run Tryd.prog W = .ok (.agg z8) W := fun W => by rw [← hz8, zeroB8]; kernel_rfl
  have HI3 : Bx ((Tryd.prog.info? 34).map (·.size) = some (u8s want).size) := Bx.mk (by rw [u8s_size, HWl.out]; kernel_rfl)
  have HI4 : Bx ((Tryd.prog.info? 34).map (·.size) = some (u8s short).size) := Bx.mk (by rw [u8s_size, HSl.out]; kernel_rfl)
  have HZ3 : Bx ((u8s want).size = z32.size) := Bx.mk (by rw [u8s_size, HWl.out, ← hz32]; rfl)
  have HZ4 : Bx ((u8s short).size = z32.size) := Bx.mk (by rw [u8s_size, HSl.out, ← hz32]; rfl)
  obtain ⟨p8, hp8⟩ : ∃ p, short.take 8 = p := ⟨_, rfl⟩
  have HP8 := Bx.mk hp8
  have HPl : Bx (p8.length = 8) := Bx.mk (by rw [← hp8, List.length_take, HSl.out]; rfl)
  have HI5 : Bx ((Tryd.prog.info? 36).map (·.size) = some (u8s p8).size) := Bx.mk (by rw [u8s_size, HPl.out]; kernel_rfl)
  have HZ5 : Bx ((u8s p8).size = z8.size) := Bx.mk (by rw [u8s_size, HPl.out, ← hz8]; rfl)
  clear hz32 hz8 hp8
  go_wp2_with (refine wpList_load_row rfl 30 _ rfl T (by rfl) _ _ _ _ H5.out.1.row Tryd.underlying30 rfl HT30.out ?_)
  refine (HHd.out w5 (Below.refl _ _)).mono ?_
  rintro e w6 ⟨rfl, hb6⟩
  have H6 := Bx.mk hb6
  clear hb6
  go_upto_region 11 with (refine wpList_store_var rfl 34 _ _ rfl w6 _ _ rfl (by rfl) (u8s want) (by rfl) HZ3.out HI3.out (one_u8s _) ?_; intro w7 hb7 hr7 hl7)
  have H7 : Bx (Below w5.heap.size w5 w7 ∧ Bytes w7 (.slice (some ⟨w6.heap.size, 0, none⟩) 32 32) want) := Bx.mk ⟨H6.out.trans (hb7.mono H6.out.size), row_bytes hr7 HWl.out⟩
  clear hb7 hr7 hl7 H6
  generalize w6.heap.size = D3 at *
  go_wp2_with (refine wpList_load_row rfl 30 _ rfl T (by rfl) _ _ _ _ (H5.out.1.later hg H7.out.1).row Tryd.underlying30 rfl HT30.out ?_)
  refine (HHs.out w7 H7.out.1).mono ?_
  rintro e w8 ⟨rfl, hb8⟩
  have H8 : Bx (Below w5.heap.size w5 w8 ∧ Bytes w8 (.slice (some ⟨D3, 0, none⟩) 32 32) want) := Bx.mk ⟨H7.out.1.trans (hb8.mono H7.out.1.size), H7.out.2.later hb8⟩
  clear hb8 H7
  go_upto_region 12 with (refine wpList_store_var rfl 34 _ _ rfl w8 _ _ rfl (by rfl) (u8s short) (by rfl) HZ4.out HI4.out (one_u8s _) ?_; intro w9 hb9 hr9 hl9)
  have H9 : Bx (Below w5.heap.size w5 w9 ∧ Bytes w9 (.slice (some ⟨D3, 0, none⟩) 32 32) want ∧ Bytes w9 (.slice (some ⟨w8.heap.size, 0, none⟩) 8 32) p8) := Bx.mk ⟨H8.out.1.trans (hb9.mono H8.out.1.size), H8.out.2.later hb9, by rw [← HP8.out]; exact (row_bytes hr9 HSl.out).take 8 (by omega)⟩
  clear hb9 hr9 hl9 H8
  generalize w8.heap.size = D4 at *
  go_wp2_with fail
  have HPr : Bx (Calls Tryd.prog 13 #[pk] w9 fun e w' => e = .returned (.agg (u8s p8)) ∧ Below w9.heap.size w9 w') := Bx.mk (by
    have h9 := H5.out.1.later hg H9.out.1
    rw [← HP8.out, ← HWS.out.2]
    exact print_any x pk w9 h9.kk.key (by have := HBL.out; omega) h9.tab (Nat.lt_of_lt_of_le hg h9.below.size))
  refine HPr.out.mono ?_
  rintro e w10 ⟨rfl, hb10⟩
  have H10 : Bx (Below w5.heap.size w5 w10 ∧ Bytes w10 (.slice (some ⟨D3, 0, none⟩) 32 32) want ∧ Bytes w10 (.slice (some ⟨D4, 0, none⟩) 8 32) p8) := Bx.mk ⟨H9.out.1.trans (hb10.mono H9.out.1.size), H9.out.2.1.later hb10, H9.out.2.2.later hb10⟩
  clear hb10 H9 HPr
  go_upto_region 13 with (refine wpList_store_var rfl 36 _ _ rfl w10 _ _ rfl (by rfl) (u8s p8) (by rfl) HZ5.out HI5.out (one_u8s _) ?_; intro w11 hb11 hr11 hl11)
  have H11 : Bx (Below w5.heap.size w5 w11 ∧ Bytes w11 (.slice (some ⟨D3, 0, none⟩) 32 32) want ∧ Bytes w11 (.slice (some ⟨D4, 0, none⟩) 8 32) p8 ∧ Bytes w11 (.slice (some ⟨w10.heap.size, 0, none⟩) 8 8) p8) := Bx.mk ⟨H10.out.1.trans (hb11.mono H10.out.1.size), H10.out.2.1.later hb11, H10.out.2.2.later hb11, row_bytes hr11 HPl.out⟩
  clear hb11 hr11 hl11 H10 HZ3 HZ4 HZ5 HI3 HI4 HI5 hz32v hz8v HHd HHs
  generalize w10.heap.size = D5 at *
  have HV2 := HVs
  refine reg13K w b1 T tbl us (.slice ap np cp) (.slice aq nq2 cq) pk x al t (cutQ pss) a0 n0 c0 D3 D4 D5 want p8 HTb.out hg HVs.out HAl.out HBL.out.1 HBL.out.2 HLn.out.1 HC.out.2 HLn.out.2 HWS.out.1 HPl.out w11 ⟨H5.out.1.later hg H11.out.1, H5.out.2.later H11.out.1 (fun g hg => (H5.out.2.lt g hg).1), H11.out.2.1, H11.out.2.2.1, H11.out.2.2.2⟩ _ _ ⟨⟨rfl, rfl⟩, rfl, rfl, rfl, rfl, rfl, rfl⟩ rfl rfl rfl rfl ?_
  intro a' w12 hKF h98 hks hob
  have H12 := Bx.mk (And.intro hks hob)
  clear hks hob H11 H5 HPs
  obtain ⟨fx, rfl, hfx⟩ := open148 hKF.fr
  have e0 := (hfx 0).symm.trans hKF.s0
  have e1 := (hfx 1).symm.trans hKF.s1
  have e7 := (hfx 7).symm.trans hKF.s7
  have e8 := (hfx 8).symm.trans hKF.s8
  have e9 := (hfx 9).symm.trans hKF.s9
  have e10 := (hfx 10).symm.trans hKF.s10
  have e98 := (hfx 98).symm.trans h98
  clear hKF hfx h98
  rw [e0, e1, e7, e8, e9, e10, e98]
  clear e0 e1 e7 e8 e9 e10 e98
  have hn150 : (n0 : Int) ≤ 150 := by have h1 := HN0.out; have h2 := HBL.out; omega
  by_cases hz : n0 = 0
  · have t0 : ¬ (0 : Int) < (n0 : Int) := by omega
    clear hz
    go_upto_region 21 with (fail)
    refine reg21K w b1 T tbl us _ _ pk x al _ _ (cutQ pss) HTb.out hg HVs.out HAl.out HLn.out.1 HLn.out.2 w12 H12.out.1 _ _ ⟨⟨rfl, rfl⟩, rfl, rfl, rfl, rfl, rfl, rfl⟩ rfl ?_
    intro a' W9 hFr h6 hb9
    have HF9 := Bx.mk hb9
    obtain ⟨fx, rfl, hfx⟩ := open148 hFr
    have e6 := (hfx 6).symm.trans h6
    clear hFr hfx h6 hb9
    rw [e6]
    clear e6
    go_wp2
    go_ret
    exact ⟨rfl, HF9.out⟩
  · have t0 : (0 : Int) < (n0 : Int) := by omega
    have hc0 := H12.out.2.bytes
    rcases H12.out.2.2 with ⟨-, h0⟩ | ⟨g, cg, cur, hv, hgb, hgh, -⟩
    · have h1 := HN0.out
      omega
    injection hv with e1 e2 e3
    subst e1
    have HGb : Bx (w.heap.size ≤ g ∧ g < b1) := Bx.mk ⟨hgb, HOb.out g rfl⟩
    obtain ⟨c, o, he, hcell⟩ := hc0.cell 0 (by omega)
    injection he with he
    injection he with he1 he2
    subst he1
    subst he2
    have HXn : Bx (0 < x.length ∧ x.length ≤ 150) := Bx.mk ⟨by have h1 := HN0.out; omega, HBL.out.1⟩
    obtain ⟨x0, hx0⟩ : ∃ x0, x.getD 0 0 = x0 := ⟨_, rfl⟩
    have HX0 := Bx.mk hx0
    rw [hx0] at hcell
    have hcell : w12.cell? ⟨g, 0, none⟩ = some (.int .u8 (ub x0)) := hcell
    have hub := ub_nonneg x0
    have hub2 := ub_le x0
    have fz : w12.frozen? ⟨g, 0, none⟩ = false := frozen_of_row _ _ _ _ _ hgh
    clear hz hc0 hgb hx0 hgh e2 e3
    go_upto_region 18 with (fail)
    have H13 : Bx (KS w b1 T tbl us (.slice ap np cp) (.slice aq nq2 cq) pk x al (w12.setCell ⟨g, 0, none⟩ (.int .u8 ((ub x0 + 1) % 256)))) := Bx.mk (H12.out.1.turn hg (kb_set _ _ _ _) HGb.out.1 HGb.out.2)
    generalize w12.setCell ⟨g, 0, none⟩ (.int .u8 ((ub x0 + 1) % 256)) = w13 at *
    clear H12 hcell fz
    go_wp2_with fail
    refine (kbytes_any x pk w13 H13.out.kk.key (by have := HXn.out; omega)).mono ?_
    rintro e w14 ⟨vb, rfl, ho, hb⟩
    have H14 : Bx (KS w b1 T tbl us (.slice ap np cp) (.slice aq nq2 cq) pk x al w14) := Bx.mk (H13.out.later hg hb)
    clear H13 hb
    obtain ⟨ab, cb, hvb, -, -⟩ := bytes_form ho.bytes
    subst hvb
    obtain ⟨c, o, rfl, hcell2⟩ := ho.bytes.cell 0 HXn.out.1
    rw [HX0.out] at hcell2
    obtain ⟨n2, hn2⟩ : ∃ n, x.length = n := ⟨_, rfl⟩
    have hn3 : (0 : Int) < (n2 : Int) ∧ (n2 : Int) ≤ 150 := by have := HXn.out; omega
    obtain ⟨hn3, hn4⟩ := hn3
    have hcell2 : w14.cell? ⟨c, o, none⟩ = some (.int .u8 (ub x0)) := hcell2
    rw [hn2]
    clear ho hn2
    go_upto_region 21 with (fail)
    refine reg21K w b1 T tbl us _ _ pk x al _ _ (cutQ pss) HTb.out hg HVs.out HAl.out HLn.out.1 HLn.out.2 w14 H14.out _ _ ⟨⟨rfl, rfl⟩, rfl, rfl, rfl, rfl, rfl, rfl⟩ rfl ?_
    intro a' W9 hFr h6 hb9
    have HF9 := Bx.mk hb9
    obtain ⟨fx, rfl, hfx⟩ := open148 hFr
    have e6 := (hfx 6).symm.trans h6
    clear hFr hfx h6 hb9
    rw [e6]
    clear e6
    go_wp2
    go_ret
    exact ⟨rfl, HF9.out⟩
end Go.Proofs.YtcaehkglfliihaaDoor
