/-
  The walks of the turned bytes and of the tag of the document.
-/
import Derived.Test.YtcaehkglfliihaaDoorSj
namespace Go.Proofs.YtcaehkglfliihaaDoor
open Go Go.RowKit
/-- Bytes with the bits of others turned. -/
def xorL (b s : List UInt8) : List UInt8 := (List.range b.length).map fun j => b.getD j 0 ^^^ s.getD j 0
def xorT (b s : List UInt8) (k : Nat) : List UInt8 := (List.range k).map fun j => b.getD j 0 ^^^ s.getD j 0
theorem xorT_succ (b s : List UInt8) (k : Nat) : xorT b s (k + 1) = xorT b s k ++ [b.getD k 0 ^^^ s.getD k 0] := by
  unfold xorT
  rw [List.range_succ, List.map_append]
  rfl
theorem xorT_length (b s : List UInt8) (k : Nat) : (xorT b s k).length = k := by simp [xorT]
theorem trnd_xor (hk nonce b : List UInt8) : xorL b (strm hk nonce b.length) = trnd hk nonce b := by
  unfold xorL trnd
  apply List.map_congr_left
  intro j hj
  have hj' : j < b.length := by simpa using hj
  congr 1
  unfold strm
  rw [List.getD_eq_getElem?_getD, List.getElem?_map, List.getElem?_range hj']
  rfl
set_option maxRecDepth 100000 in
set_option maxHeartbeats 1000000 in
theorem rturn_any (b s : List UInt8) (vb vs : Value) (w : World) (hb : Bytes w vb b) (hs : Bytes w vs s) (hl : b.length ≤ s.length) (hl2 : s.length ≤ 1000000) :
    Calls Tryd.prog 47 #[vb, vs] w fun e w' => ∃ v', e = .returned v' ∧ OwnB w' w.heap.size v' (xorL b s) ∧ Below w.heap.size w w' := by
  have HV := Bx.mk (And.intro hb hs)
  obtain ⟨ab, cb, rfl, -⟩ := hb
  obtain ⟨asl, cs, rfl, -⟩ := hs
  obtain ⟨n, hn⟩ : ∃ n, b.length = n := ⟨_, rfl⟩
  obtain ⟨m, hm⟩ : ∃ n, s.length = n := ⟨_, rfl⟩
  have HN := Bx.mk (And.intro hn hm)
  rw [hn, hm] at HV hl ⊢
  rw [hm] at hl2
  have hn1 : (n : Int) ≤ 1000000 := by omega
  have hm1 : (m : Int) ≤ 1000000 := by omega
  clear hn hm
  go_enter Tryd.func47, Tryd.ntmps47
  go_wp2
  go_loopw [5, 6] (fun vo i wr => ∃ j : Nat, i = .int .i64 (j : Int) ∧ j ≤ n ∧ Bx (OwnB wr w.heap.size vo (xorT b s j) ∧ Below w.heap.size w wr)) (fun _ i _ => n - (intOf i).toNat)
  case atStart => exact ⟨0, rfl, by omega, ⟨OwnB.nil _ _, Below.refl _ _⟩⟩
  case round =>
    obtain ⟨j, rfl, hj, HR⟩ := hrel
    obtain ⟨vo, rfl⟩ : ∃ v, v = u5 := ⟨_, rfl⟩
    by_cases hlt : j < n
    · obtain ⟨gb, ob, hab, hcb⟩ := HV.out.1.cell j hlt
      obtain ⟨gs, os, has, hcs⟩ := HV.out.2.cell j (by omega)
      subst hab
      subst has
      obtain ⟨x0, hx0⟩ : ∃ x, b.getD j 0 = x := ⟨_, rfl⟩
      obtain ⟨y0, hy0⟩ : ∃ x, s.getD j 0 = x := ⟨_, rfl⟩
      rw [hx0] at hcb
      rw [hy0] at hcs
      have HXY := Bx.mk (And.intro hx0 hy0)
      have HC : Bx ((∀ {W : World}, Below w.heap.size w W → W.cell? ⟨gb, ob + j, none⟩ = some (.int .u8 (ub x0))) ∧ (∀ {W : World}, Below w.heap.size w W → W.cell? ⟨gs, os + j, none⟩ = some (.int .u8 (ub y0)))) := Bx.mk ⟨fun h => by rw [h.cell (p := ⟨gb, ob + j, none⟩) (World.block_lt_of_cell? _ _ hcb)]; exact hcb, fun h => by rw [h.cell (p := ⟨gs, os + j, none⟩) (World.block_lt_of_cell? _ _ hcs)]; exact hcs⟩
      have hxor := ub_xor x0 y0
      have hz1 := ub_nonneg (x0 ^^^ y0)
      have hz2 := ub_le (x0 ^^^ y0)
      have hj1 : (j : Int) < (n : Int) := by omega
      have hj2 : (j : Int) < (m : Int) := by omega
      have B : Bx (OwnB wr.drew w.heap.size vo (xorT b s j) ∧ Below w.heap.size w wr.drew) := Bx.mk ⟨HR.out.1.later (Below.refl _ _).drew (fun g hg => (HR.out.1.lt g hg).1), HR.out.2.drew⟩
      clear HR hcb hcs hx0 hy0
      go_upto_region 5 with (fail)
      refine wp_region_noPanic ?_
      refine wp_region_held_drew (S := fun W => W.cell? ⟨gb, ob + j, none⟩ = some (.int .u8 (ub x0)) ∧ W.cell? ⟨gs, os + j, none⟩ = some (.int .u8 (ub y0)) ∧ Bx (Below w.heap.size w W)) (by kernel_rfl) (⟨HC.out.1 B.out.2, HC.out.2 B.out.2, ⟨B.out.2⟩⟩) (fun hHeld => ?_)
      generalize wr.drew = W0 at *
      refine takeL 0 (v := ?_) rfl (by kernel_rfl) (by kernel_rfl) (by kernel_rfl) (fun _ _ _ h => h) (Or.inl ⟨by rfl, ?_⟩) hHeld ?_
      rotate_left 1
      · (intro w hSw; go_simp; try with_reducible rfl)
      try simp only [Act.put, List.setIfInBounds_toArray, List.set_cons_zero, List.set_cons_succ]
      refine takeL 1 (v := ?_) rfl (by kernel_rfl) (by kernel_rfl) (by kernel_rfl) (fun _ _ _ h => h) (Or.inl ⟨by rfl, ?_⟩) hHeld ?_
      rotate_left 1
      · (intro w hSw; go_simp; try with_reducible rfl)
      try simp only [Act.put, List.setIfInBounds_toArray, List.set_cons_zero, List.set_cons_succ]
      refine takeL 2 (v := ?_) rfl (by kernel_rfl) (by kernel_rfl) (by kernel_rfl) (fun _ _ _ h => h) (Or.inl ⟨by rfl, ?_⟩) hHeld ?_
      rotate_left 1
      · (intro w hSw; go_simp; try with_reducible rfl)
      try simp only [Act.put, List.setIfInBounds_toArray, List.set_cons_zero, List.set_cons_succ]
      refine takeL 3 (v := ?_) rfl (by kernel_rfl) (by kernel_rfl) (by kernel_rfl) (fun _ _ _ h => h) (Or.inl ⟨by rfl, ?_⟩) hHeld ?_
      rotate_left 1
      · (intro w hSw; go_simp; try with_reducible rfl)
      try simp only [Act.put, List.setIfInBounds_toArray, List.set_cons_zero, List.set_cons_succ]
      refine takeL 4 (v := ?_) rfl (by kernel_rfl) (by kernel_rfl) (by kernel_rfl) (fun _ _ _ h => h) (Or.inl ⟨by rfl, ?_⟩) hHeld ?_
      rotate_left 1
      · (intro w hSw; go_simp; try with_reducible rfl)
      try simp only [Act.put, List.setIfInBounds_toArray, List.set_cons_zero, List.set_cons_succ]
      refine takeL 5 (v := ?_) rfl (by kernel_rfl) (by kernel_rfl) (by kernel_rfl) (fun _ _ _ h => h) (Or.inl ⟨by rfl, ?_⟩) hHeld ?_
      rotate_left 1
      · (intro w hSw; go_simp; try with_reducible rfl)
      try simp only [Act.put, List.setIfInBounds_toArray, List.set_cons_zero, List.set_cons_succ]
      refine takeL 6 (v := ?_) rfl (by kernel_rfl) (by kernel_rfl) (by kernel_rfl) (fun _ _ _ h => h) (Or.inl ⟨by rfl, ?_⟩) hHeld ?_
      rotate_left 1
      · (intro w hSw; go_simp; try with_reducible rfl)
      try simp only [Act.put, List.setIfInBounds_toArray, List.set_cons_zero, List.set_cons_succ]
      refine takeL 7 (v := ?_) rfl (by kernel_rfl) (by kernel_rfl) (by kernel_rfl) (fun _ _ _ h => h) (Or.inl ⟨by rfl, ?_⟩) hHeld ?_
      rotate_left 1
      · (intro w hSw; go_simp; try with_reducible rfl)
      try simp only [Act.put, List.setIfInBounds_toArray, List.set_cons_zero, List.set_cons_succ]
      refine takeL 8 (v := ?_) rfl (by kernel_rfl) (by kernel_rfl) (by kernel_rfl) (fun _ _ _ h => h) (Or.inl ⟨by rfl, ?_⟩) hHeld ?_
      rotate_left 1
      · (intro w hSw; go_simp; try with_reducible rfl)
      try simp only [Act.put, List.setIfInBounds_toArray, List.set_cons_zero, List.set_cons_succ]
      refine takeL 9 (v := ?_) rfl (by kernel_rfl) (by kernel_rfl) (by kernel_rfl) (fun _ _ _ h => h) (Or.inl ⟨by rfl, ?_⟩) hHeld ?_
      rotate_left 1
      · (intro w hSw; go_simp; try with_reducible rfl)
      try simp only [Act.put, List.setIfInBounds_toArray, List.set_cons_zero, List.set_cons_succ]
      refine stepL 10 (by kernel_rfl) rfl (fun K hK => ?_)
      go_simp
      have B1 : Bx (Bytes (W0.alloc (.cells #[.int .u8 (ub (x0 ^^^ y0))] 5)) (.slice (some ⟨W0.heap.size, 0, none⟩) 1 1) [x0 ^^^ y0] ∧ OwnB (W0.alloc (.cells #[.int .u8 (ub (x0 ^^^ y0))] 5)) w.heap.size vo (xorT b s j) ∧ Below w.heap.size w (W0.alloc (.cells #[.int .u8 (ub (x0 ^^^ y0))] 5))) := Bx.mk ⟨built1 _ _, ownB_a B.out.1 _, B.out.2.alloc B.out.2.size _⟩
      refine hK.out _ _ ⟨HC.out.1 B1.out.2.2, HC.out.2 B1.out.2.2, ⟨B1.out.2.2⟩⟩ (fun hHeld => ?_)
      clear hK K B
      try simp only [Act.put, List.setIfInBounds_toArray, List.set_cons_zero, List.set_cons_succ]
      generalize W0.alloc (.cells #[.int .u8 (ub (x0 ^^^ y0))] 5) = W1 at *
      generalize W0.heap.size = D0 at *
      refine stepL 11 (by kernel_rfl) rfl (fun K hK => ?_)
      refine step_ap rfl _ _ rfl w.heap.size _ (xorT b s j) (by rfl) B1.out.2.1 _ [x0 ^^^ y0] (by rfl) B1.out.1 (by rw [xorT_length]; simp; omega) B1.out.2.2.size ?_
      intro v2 W2 ho2 hg2 _
      have B2 : Bx (OwnB W2 w.heap.size v2 (xorT b s (j + 1)) ∧ Below w.heap.size w W2) := Bx.mk ⟨by rw [xorT_succ, HXY.out.1, HXY.out.2]; exact ho2, B1.out.2.2.trans (own_below B1.out.2.1 hg2 B1.out.2.2.size)⟩
      clear ho2 hg2 B1
      refine hK.out _ _ ⟨HC.out.1 B2.out.2, HC.out.2 B2.out.2, ⟨B2.out.2⟩⟩ (fun hHeld => ?_)
      clear hK K
      try simp only [Act.put, List.setIfInBounds_toArray, List.set_cons_zero, List.set_cons_succ]
      refine takeL 12 (v := ?_) rfl (by kernel_rfl) (by kernel_rfl) (by kernel_rfl) (fun _ _ _ h => h) (Or.inl ⟨by rfl, ?_⟩) hHeld ?_
      rotate_left 1
      · (intro w hSw; go_simp; try with_reducible rfl)
      try simp only [Act.put, List.setIfInBounds_toArray, List.set_cons_zero, List.set_cons_succ]
      refine wpAnyH_done (by kernel_rfl) ?_ _
      refine NoPanic.normal ?_
      clear hHeld HC
      go_wp2
      go_roundw
      case rel => exact ⟨j + 1, by go_num, by omega, B2⟩
      case measure => simp [intOf]; omega
    · have ej : j = n := by omega
      have hj2 : ¬ (j : Int) < (n : Int) := by omega
      have HE : Bx (OwnB wr w.heap.size vo (xorL b s) ∧ Below w.heap.size w wr) := Bx.mk ⟨by
        have h := HR.out.1
        rw [ej] at h
        unfold xorL
        rw [HN.out.1]
        exact h, HR.out.2⟩
      clear HR ej
      go_wp2
      go_ret
      exact ⟨_, rfl, HE.out⟩
/-- What stays while the tag of the document is made. -/
structure RTg (w : World) (T : Nat) (tbl : List Value) (bk : List UInt8) (D : Nat) (vn vd vb : Value) (nonce bound body : List UInt8) (W : World) : Prop where
  below : Below w.heap.size w W
  row : W.heap[T]? = some (.cells tbl.toArray 30 (0, 0))
  lt : T < W.heap.size
  res : W.heap[w.heap.size + 1]? = some (.cells (u8s (List.replicate 32 0)) 34 (0, 0))
  rlt : w.heap.size + 1 < W.heap.size
  key : Bytes W (.slice (some ⟨D, 0, none⟩) 32 32) bk
  nonce : Bytes W vn nonce
  bound : Bytes W vd bound
  body : Bytes W vb body
theorem RTg.rng {w : World} {T : Nat} {tbl : List Value} {bk : List UInt8} {D : Nat} {vn vd vb : Value} {nonce bound body : List UInt8} {W : World} (h : RTg w T tbl bk D vn vd vb nonce bound body W) : W.rangeAt T 0 tbl := fun j v hv => by
  rw [cell_of_row _ _ _ _ _ _ h.row, Nat.zero_add, ← Array.getElem?_toList]
  exact hv
theorem RTg.later {w : World} {T : Nat} {tbl : List Value} {bk : List UInt8} {D : Nat} {vn vd vb : Value} {nonce bound body : List UInt8} {W W1 : World} (h : RTg w T tbl bk D vn vd vb nonce bound body W) (hb : Below W.heap.size W W1) : RTg w T tbl bk D vn vd vb nonce bound body W1 :=
  ⟨h.below.trans (hb.mono h.below.size), by rw [hb.block _ h.lt]; exact h.row, Nat.lt_of_lt_of_le h.lt hb.size, by rw [hb.block _ h.rlt]; exact h.res, Nat.lt_of_lt_of_le h.rlt hb.size, h.key.later hb, h.nonce.later hb, h.bound.later hb, h.body.later hb⟩
set_option maxRecDepth 100000 in
set_option maxHeartbeats 2000000 in
theorem rtagB_any (tbl : List Value) (htb : u32s (kTab ++ hTab) = tbl.toArray) (key nonce bound body : List UInt8) (vk vn vd vb : Value) (w : World) (hk : Bytes w vk key) (hn : Bytes w vn nonce) (hd : Bytes w vd bound) (hb : Bytes w vb body) (hkl : key.length ≤ 1000) (hnl : nonce.length ≤ 1000) (hdl : bound.length ≤ 1000) (hbl : body.length ≤ 1000) :
    Calls Tryd.prog 48 #[.agg tbl.toArray, vk, vn, vd, vb] w fun e w' => e = .returned (.agg (u8s (tagB (bindK key) nonce bound body))) ∧ Below w.heap.size w w' := by
  have HV := Bx.mk (And.intro hk (And.intro hn (And.intro hd hb)))
  have HL := Bx.mk (And.intro hkl (And.intro hnl (And.intro hdl hbl)))
  have HTb := Bx.mk htb
  obtain ⟨ak, ck, rfl, -⟩ := hk
  obtain ⟨an, cn, rfl, -⟩ := hn
  obtain ⟨ad, cd, rfl, -⟩ := hd
  obtain ⟨ab, cb, rfl, -⟩ := hb
  obtain ⟨nk, hnk⟩ : ∃ n, key.length = n := ⟨_, rfl⟩
  obtain ⟨nn, hnn⟩ : ∃ n, nonce.length = n := ⟨_, rfl⟩
  obtain ⟨nd, hnd⟩ : ∃ n, bound.length = n := ⟨_, rfl⟩
  obtain ⟨nb, hnb⟩ : ∃ n, body.length = n := ⟨_, rfl⟩
  rw [hnk, hnn, hnd, hnb] at HV ⊢
  have HT30 : Bx ((Tryd.prog.info? 30).map (·.size) = some tbl.toArray.size) := Bx.mk (tbl_size2 htb)
  clear hnk hnn hnd hnb hkl hnl hdl hbl
  obtain ⟨z32, hz32⟩ : ∃ z, u8s (List.replicate 32 0) = z := ⟨_, rfl⟩
  have hz32v : ∀ W : World, (zeroValue 34).run Tryd.prog W = .ok (.agg z32) W := fun W => by rw [← hz32, zero32]; kernel_rfl
  have HZ0 : Bx (∀ bl : List UInt8, bl.length = 32 → (u8s bl).size = z32.size ∧ (Tryd.prog.info? 34).map (·.size) = some (u8s bl).size) := Bx.mk (fun bl hl => ⟨by rw [← hz32, u8s_size, u8s_size, hl]; rfl, by rw [u8s_size, hl]; kernel_rfl⟩)
  have H0 : Bx (Below w.heap.size w ((w.alloc (.cells tbl.toArray 30)).alloc (.cells z32 34)) ∧ ((w.alloc (.cells tbl.toArray 30)).alloc (.cells z32 34)).heap[w.heap.size]? = some (.cells tbl.toArray 30 (0, 0)) ∧ ((w.alloc (.cells tbl.toArray 30)).alloc (.cells z32 34)).heap[w.heap.size + 1]? = some (.cells (u8s (List.replicate 32 0)) 34 (0, 0)) ∧ w.heap.size + 1 < ((w.alloc (.cells tbl.toArray 30)).alloc (.cells z32 34)).heap.size) := Bx.mk ⟨((Below.refl _ _).alloc (Nat.le_refl _) _).alloc (by simp) _, by rw [hold _ _ _ (by simp), hnew _ _ _ rfl], by rw [hnew _ _ _ (by simp), hz32], by simp⟩
  clear hz32
  have hu30 := Tryd.underlying30
  have hi30 : (Tryd.prog.info? 30).map (·.size) = some tbl.length := tbl_size3 htb
  have HSz : Bx (w.heap.size + 1 = w.heap.size + 1) := Bx.mk rfl
  clear htb
  go_enter Tryd.func48, Tryd.ntmps48
  go_upto_region 1 with (fail)
  generalize (w.alloc (.cells tbl.toArray 30)).alloc (.cells z32 34) = w1 at *
  go_wp2_with (refine wpList_load_row rfl 30 _ rfl w.heap.size (by rfl) _ _ _ _ H0.out.2.1 Tryd.underlying30 rfl HT30.out ?_)
  refine (rderive_any tbl HTb.out key bindL [] _ _ w1 (HV.out.1.later H0.out.1) ⟨[], .inl ⟨rfl, rfl⟩, rfl, fun j hj => absurd hj (by simp)⟩ (by have := HL.out; omega) (by decide) (by simp) (by simp)).mono ?_
  rintro e w2 ⟨rfl, hb2⟩
  have H2 := Bx.mk hb2
  clear hb2
  have HBk : Bx ((hmac key (frame [bindL])).length = 32) := Bx.mk (hmac_length _ _)
  have HBe : Bx (hmac key (frame [bindL]) = bindK key) := Bx.mk rfl
  rw [HBe.out] at HBk ⊢
  have HZ3 := Bx.mk (HZ0.out (bindK key) HBk.out)
  go_upto_region 2 with (refine wpList_store_var rfl 34 _ _ rfl w2 _ _ rfl (by rfl) (u8s (bindK key)) (by rfl) HZ3.out.1 HZ3.out.2 (one_u8s _) ?_; intro w3 hb3 hr3 hl3)
  have B : Bx (RTg w w.heap.size tbl (bindK key) w2.heap.size (.slice an nn cn) (.slice ad nd cd) (.slice ab nb cb) nonce bound body w3.drew) := Bx.mk (by
    have hb4 : Below w1.heap.size w1 w3 := H2.out.trans (hb3.mono H2.out.size)
    have h : RTg w w.heap.size tbl (bindK key) w2.heap.size (.slice an nn cn) (.slice ad nd cd) (.slice ab nb cb) nonce bound body w3 := ⟨H0.out.1.trans (hb4.mono H0.out.1.size), by rw [hb4.block _ (by have := H0.out.2.2.2; omega)]; exact H0.out.2.1, by have := H0.out.2.2.2; have := hb4.size; omega, by rw [hb4.block _ H0.out.2.2.2]; exact H0.out.2.2.1, Nat.lt_of_lt_of_le H0.out.2.2.2 hb4.size, row_bytes hr3 HBk.out, (HV.out.2.1.later H0.out.1).later hb4, (HV.out.2.2.1.later H0.out.1).later hb4, (HV.out.2.2.2.later H0.out.1).later hb4⟩
    exact h.later (Below.refl _ _).drew)
  clear hb3 hr3 hl3 H2 H0 HZ3 HBe
  generalize w2.heap.size = D at *
  have HPl : Bx (∀ p ∈ [nonce, bound, body], p.length ≤ 10000) := Bx.mk (fun p hp => by have h1 := HL.out; simp at hp; rcases hp with rfl | rfl | rfl <;> omega)
  have HTg : Bx (∀ W vf, RTg w w.heap.size tbl (bindK key) D (.slice an nn cn) (.slice ad nd cd) (.slice ab nb cb) nonce bound body W → Bytes W vf (frame [nonce, bound, body]) → Calls Tryd.prog 15 #[.agg tbl.toArray, .slice (some ⟨D, 0, none⟩) 32 32, vf] W fun e W' => e = .returned (.agg (u8s (tagB (bindK key) nonce bound body))) ∧ Below W.heap.size W W') := Bx.mk (fun W vf h hf => rtag_any tbl HTb.out (bindK key) (frame [nonce, bound, body]) _ _ W h.key hf (by rw [HBk.out]; omega) (by have h1 := HL.out; have := frame3_len nonce bound body 1000 (by omega) (by omega) (by omega); omega))
  have HML : Bx ((tagB (bindK key) nonce bound body).length = 32) := Bx.mk (tagB_length _ _ _ _)
  generalize hhm : tagB (bindK key) nonce bound body = hm at *
  have HHM := Bx.mk hhm
  clear hhm
  have HI : Bx ((Tryd.prog.info? 34).map (·.size) = some (u8s hm).size) := Bx.mk (by rw [u8s_size, HML.out]; kernel_rfl)
  simp only [Act.put]
  refine wp_region_noPanic ?_
  refine wp_region_held_drew (S := fun W => W.rangeAt w.heap.size 0 tbl ∧ Bx (Below w.heap.size w W)) (by kernel_rfl) (⟨B.out.rng, ⟨B.out.below⟩⟩) (fun hHeld => ?_)
  generalize w3.drew = W0 at *
  refine takeL 0 rfl (by kernel_rfl) (by kernel_rfl) (by kernel_rfl) (fun _ _ _ h => h) (yieldsIf_load_mid (by rfl) _ _ rfl _ _ rfl _ _ (fun w hSw => hSw.1) hu30 rfl hi30) hHeld ?_
  try simp only [Act.put, List.setIfInBounds_toArray, List.set_cons_zero, List.set_cons_succ]
  refine takeL 1 (v := ?_) rfl (by kernel_rfl) (by kernel_rfl) (by kernel_rfl) (fun _ _ _ h => h) (Or.inl ⟨by rfl, ?_⟩) hHeld ?_
  rotate_left 1
  · (intro w hSw; go_simp; try with_reducible rfl)
  try simp only [Act.put, List.setIfInBounds_toArray, List.set_cons_zero, List.set_cons_succ]
  refine takeL 2 (v := ?_) rfl (by kernel_rfl) (by kernel_rfl) (by kernel_rfl) (fun _ _ _ h => h) (Or.inl ⟨by rfl, ?_⟩) hHeld ?_
  rotate_left 1
  · (intro w hSw; go_simp; try with_reducible rfl)
  try simp only [Act.put, List.setIfInBounds_toArray, List.set_cons_zero, List.set_cons_succ]
  refine takeL 3 (v := ?_) rfl (by kernel_rfl) (by kernel_rfl) (by kernel_rfl) (fun _ _ _ h => h) (Or.inl ⟨by rfl, ?_⟩) hHeld ?_
  rotate_left 1
  · (intro w hSw; go_simp; try with_reducible rfl)
  try simp only [Act.put, List.setIfInBounds_toArray, List.set_cons_zero, List.set_cons_succ]
  refine takeL 4 (v := ?_) rfl (by kernel_rfl) (by kernel_rfl) (by kernel_rfl) (fun _ _ _ h => h) (Or.inl ⟨by rfl, ?_⟩) hHeld ?_
  rotate_left 1
  · (intro w hSw; go_simp; try with_reducible rfl)
  try simp only [Act.put, List.setIfInBounds_toArray, List.set_cons_zero, List.set_cons_succ]
  refine stepL 5 (by kernel_rfl) rfl (fun K hK => ?_)
  go_simp
  have P1 : Bx (Parts (W0.alloc (.cells #[.slice an nn cn, .slice ad nd cd, .slice ab nb cb] 22)) (.slice (some ⟨W0.heap.size, 0, none⟩) 3 3) [nonce, bound, body]) := Bx.mk (three_parts B.out.nonce B.out.bound B.out.body)
  have B := Bx.mk (B.out.later (below_a (.cells #[.slice an nn cn, .slice ad nd cd, .slice ab nb cb] 22)))
  refine hK.out _ _ ⟨B.out.rng, ⟨B.out.below⟩⟩ (fun hHeld => ?_)
  clear hK K
  try simp only [Act.put, List.setIfInBounds_toArray, List.set_cons_zero, List.set_cons_succ]
  generalize W0.alloc (.cells #[.slice an nn cn, .slice ad nd cd, .slice ab nb cb] 22) = W1 at *
  generalize W0.heap.size = D0 at *
  refine stepL 6 (by kernel_rfl) rfl (fun K hK => ?_)
  go_simp
  refine (rframe_any [nonce, bound, body] _ W1 P1.out (by simp) HPl.out).mono ?_
  rintro e W2 ⟨vf, rfl, hof, hb⟩
  show K _ _
  have B := Bx.mk (B.out.later hb)
  have F2 := Bx.mk hof.bytes
  clear hb hof P1
  refine hK.out _ _ ⟨B.out.rng, ⟨B.out.below⟩⟩ (fun hHeld => ?_)
  clear hK K
  try simp only [Act.put, List.setIfInBounds_toArray, List.set_cons_zero, List.set_cons_succ]
  refine stepL 7 (by kernel_rfl) rfl (fun K hK => ?_)
  go_simp
  refine (HTg.out _ _ B.out F2.out).mono ?_
  rintro e W3 ⟨rfl, hb⟩
  show K _ _
  have B := Bx.mk (B.out.later hb)
  clear hb F2
  refine hK.out _ _ ⟨B.out.rng, ⟨B.out.below⟩⟩ (fun hHeld => ?_)
  clear hK K
  try simp only [Act.put, List.setIfInBounds_toArray, List.set_cons_zero, List.set_cons_succ]
  refine stepL 8 (by kernel_rfl) rfl (fun K hK => ?_)
  refine step_st rfl 34 _ _ rfl (w.heap.size + 1) (u8s hm) (by rfl) (by rfl) (there_row B.out.res 0 _ (by rw [u8s_size, u8s_size, HML.out]; simp)) HI.out (one_u8s _) ?_
  have HF : Bx (Below w.heap.size w (W3.setCells (w.heap.size + 1) 0 (u8s hm).toList) ∧ (W3.setCells (w.heap.size + 1) 0 (u8s hm).toList).heap[w.heap.size + 1]? = some (.cells (u8s hm) 34 (0, 0)) ∧ (W3.setCells (w.heap.size + 1) 0 (u8s hm).toList).rangeAt w.heap.size 0 tbl) := Bx.mk ⟨below_setCells (by omega) _ _ _ _ B.out.below, heap_setCells_all B.out.res (by rw [u8s_size, u8s_size, HML.out]; rfl), fun j v hv => by
    rw [← B.out.rng j v hv]
    unfold World.cell?
    rw [heap_setCells_other _ _ (by show w.heap.size ≠ w.heap.size + 1; omega)]⟩
  generalize W3.setCells (w.heap.size + 1) 0 (u8s hm).toList = WF at *
  refine hK.out _ _ ⟨HF.out.2.2, ⟨HF.out.1⟩⟩ (fun hHeld => ?_)
  clear hK K B
  try simp only [Act.put, List.setIfInBounds_toArray, List.set_cons_zero, List.set_cons_succ]
  refine wpAnyH_done (by kernel_rfl) ?_ _
  refine NoPanic.normal ?_
  clear hHeld
  go_wp2
  refine bodyPost_ret (results_cell_row rfl _ _ (w.heap.size + 1) _ (u8s hm) _ _ rfl HF.out.2.1 Tryd.underlying34 rfl HI.out) rfl ?_
  exact ⟨by first | rfl | rw [HHM.out], HF.out.1⟩
end Go.Proofs.YtcaehkglfliihaaDoor
