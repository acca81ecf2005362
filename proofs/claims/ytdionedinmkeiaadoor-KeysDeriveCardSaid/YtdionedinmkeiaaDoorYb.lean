/-
  The document's keys; the example of the seventh layer; what cuts bytes.
-/
import Derived.Test.YtdionedinmkeiaaDoorYa
import Derived.Test.YtdionedinmkeiaaDoorQm
namespace Go.Proofs.YtdionedinmkeiaaDoor
open Go Go.RowKit
set_option maxRecDepth 100000 in
theorem cut7_any (bs : List UInt8) (k : Nat) (v : Value) (w : World) (hv : Bytes w v bs) (hl : bs.length ≤ 9223372036854775807) (hk : k ≤ 1000000) :
    Calls Tryd.prog 6 #[v, .int .i64 (k : Int)] w fun e w' => ∃ v', e = .returned v' ∧ (∀ W, Bytes W v bs → Bytes W v' (bs.take k)) ∧ w = w' := by
  have HV := Bx.mk hv
  obtain ⟨a, cap, rfl, hc, hnone, -⟩ := hv
  obtain ⟨n, hn⟩ : ∃ n, bs.length = n := ⟨_, rfl⟩
  have HN := Bx.mk hn
  rw [hn] at HV hl hc ⊢
  have hn1 : (n : Int) ≤ 9223372036854775807 := by omega
  have hk1 : (k : Int) ≤ 1000000 := by omega
  by_cases hlt : k < n
  · have t1 : (k : Int) < (n : Int) := by omega
    have t2 : (k : Int) ≤ (cap : Int) := by omega
    have s1 := fun W => cut_bytes a n cap k (by omega) (by omega) hnone W
    have HB : Bx (∀ W, Bytes W (.slice a n cap) bs → Bytes W (.slice a k cap) (bs.take k)) := Bx.mk (fun W hW => hW.take k (by omega))
    clear hn hnone hc HV
    go_enter Tryd.func6, Tryd.ntmps6
    go_wp2
    go_ret
    exact ⟨_, rfl, HB.out, rfl⟩
  · have t1 : ¬ (k : Int) < (n : Int) := by omega
    have t2 : (n : Int) ≤ (cap : Int) := by omega
    have s1 := fun W => cut_bytes a n cap n (by omega) (by omega) hnone W
    have HB : Bx (∀ W, Bytes W (.slice a n cap) bs → Bytes W (.slice a n cap) (bs.take k)) := Bx.mk (fun W hW => by rw [List.take_of_length_le (by omega)]; exact hW)
    clear hn hnone hc HV
    go_enter Tryd.func6, Tryd.ntmps6
    go_wp2
    go_ret
    exact ⟨_, rfl, HB.out, rfl⟩
set_option maxRecDepth 100000 in
set_option maxHeartbeats 1000000 in
theorem rlab_any (tbl : List Value) (htb : u32s (kTab ++ hTab) = tbl.toArray) (key : List UInt8) (n : Nat) (vk : Value) (w : World) (hk : Bytes w vk key) (hkl : key.length ≤ 1000000) :
    Calls Tryd.prog 13 #[.agg tbl.toArray, vk, .int .i64 (n : Int)] w fun e w' => e = .returned (.agg (u8s (numK key labL n))) ∧ Below w.heap.size w w' := by
  obtain ⟨z1, hz1⟩ : ∃ z, u8s (List.replicate 32 0) = z := ⟨_, rfl⟩
  have hz1v : ∀ W : World, (zeroValue 40).run Tryd.prog W = .ok (.agg z1) W := fun W => by rw [← hz1, zero32]; kernel_rfl
  have HZ1 := Bx.mk hz1
  have HTI : Bx ((Tryd.prog.info? 32).map (·.size) = some tbl.length) := Bx.mk (tbl_size3 htb)
  have HDe := Bx.mk fun (W : World) (vp : Value) (h : Bytes W vk key) (hp : PartsR W vp [by1 n]) => rderive_any tbl htb key labL [by1 n] vk vp W h hp hkl (by decide) (by simp) (by intro p hp; simp at hp; subst hp; simp [by1])
  have HE : Bx (numK key labL n = hmac key (frame [labL, by1 n])) := Bx.mk rfl
  have HL : Bx ((numK key labL n).length = 32) := Bx.mk (hmac_length _ _)
  rw [← HE.out] at HDe
  generalize numK key labL n = sk at *
  unfold labL at HDe
  simp only [List.toArray] at HDe
  have HI : Bx ((Tryd.prog.info? 40).map (·.size) = some (u8s sk).size ∧ (u8s sk).size = z1.size) := Bx.mk ⟨by rw [u8s_size, HL.out]; kernel_rfl, by rw [← HZ1.out, u8s_size, u8s_size, HL.out]; rfl⟩
  have HK := Bx.mk hk
  obtain ⟨a, cap, rfl, -⟩ := hk
  obtain ⟨m, hm⟩ : ∃ m, key.length = m := ⟨_, rfl⟩
  rw [hm] at HK HDe ⊢
  clear hz1 htb hkl HE hm
  have HBn : Bx (by1 n = by1 n) := Bx.mk rfl
  have HBu := Bx.mk fun (W : World) => (built W (by1 n))
  have HBY := Bx.mk (And.intro (b_lo n) (True.intro))
  unfold by1 at HBu
  simp only [u8s, List.map_cons, List.map_nil, List.length_cons, List.length_nil, Nat.reduceAdd, List.toArray] at HBu
  obtain ⟨B, hB⟩ : ∃ B, w.heap.size = B := ⟨_, rfl⟩
  have H0 := Bx.mk (((KS.start w B hB).new (.cells tbl.toArray 32)).new (.cells z1 40))
  rw [alloc_size, hB] at H0
  have HB := Bx.mk hB
  have hn0 : (0 : Int) ≤ (n : Int) := by omega

  rw [hB]
  go_enter Tryd.func13, Tryd.ntmps13
  go_upto_region 1 with fail
  obtain ⟨w0, hw0⟩ : ∃ w0, (w.alloc (.cells tbl.toArray 32)).alloc (.cells z1 40) = w0 := ⟨_, rfl⟩
  rw [hw0] at H0 ⊢
  clear hw0
  obtain ⟨D, hD⟩ : ∃ D, w0.heap.size = D := ⟨_, rfl⟩
  have HKW := Bx.mk (HK.out.later (w1 := w0) (by rw [HB.out]; exact H0.out.below))
  have HBW := Bx.mk (HBu.out w0)
  rw [hD] at HBW
  go_wp2_with (refine wpList_load_mid rfl 32 _ rfl B 0 (by rfl) tbl _ (row_rng (H0.out.rows _ (.tail _ (.head _)))) Tryd.underlying32 rfl HTI.out ?_)
  simp only [HBY.out.1]
  obtain ⟨w1, hw1⟩ : ∃ w1, w0.alloc (.cells #[.int .u8 (ub (UInt8.ofNat (n % 256)))] 5) = w1 := ⟨_, rfl⟩
  have hs1 : w1.heap.size = D + 1 := by rw [← hw1, ← hD]; simp
  have H1 := Bx.mk (And.intro (H0.out.alloc (.cells #[.int .u8 (ub (UInt8.ofNat (n % 256)))] 5)) (HKW.out.later (below_a (.cells #[.int .u8 (ub (UInt8.ofNat (n % 256)))] 5))))
  rw [hw1] at H1 HBW ⊢
  clear hw1 H0 HKW HBu
  have H2 := Bx.mk (And.intro (H1.out.1.alloc (.cells #[.slice (some ⟨D, 0, none⟩) 1 1] 22)) (And.intro (H1.out.2.later (below_a (.cells #[.slice (some ⟨D, 0, none⟩) 1 1] 22))) (partsR_one HBW.out 22)))
  rw [hs1] at H2
  clear hs1 H1 HBW hD
  generalize w1.alloc (.cells #[.slice (some ⟨D, 0, none⟩) 1 1] 22) = w2 at *
  refine (HDe.out w2 _ H2.out.2.1 H2.out.2.2).mono ?_
  rintro e w3 ⟨rfl, hb⟩
  have H3 := Bx.mk (H2.out.1.later hb)
  clear hb H2
  go_wp2_with (refine wpList_store_new rfl 40 _ _ rfl (B + 1) (u8s sk) z1 _ (by rfl) (by rfl) (H3.out.rows _ (.head _)) HI.out.2 HI.out.1 (one_u8s _) ?_; intro w8 hw8 hr8; have hg8 := Bx.mk (kb_of hw8); have HR8 := Bx.mk hr8; clear hw8 hr8)
  refine bodyPost_ret (results_cell_row rfl _ _ (B + 1) _ (u8s sk) _ _ rfl HR8.out Tryd.underlying40 rfl HI.out.1) rfl ?_
  exact ⟨rfl, H3.out.below.trans (grown_below hg8.out (by omega) H3.out.le)⟩
set_option maxRecDepth 100000 in
set_option maxHeartbeats 1000000 in
theorem rsee_any (tbl : List Value) (htb : u32s (kTab ++ hTab) = tbl.toArray) (key : List UInt8) (n : Nat) (vk : Value) (w : World) (hk : Bytes w vk key) (hkl : key.length ≤ 1000000) :
    Calls Tryd.prog 22 #[.agg tbl.toArray, vk, .int .i64 (n : Int)] w fun e w' => e = .returned (.agg (u8s (numK key seeL n))) ∧ Below w.heap.size w w' := by
  obtain ⟨z1, hz1⟩ : ∃ z, u8s (List.replicate 32 0) = z := ⟨_, rfl⟩
  have hz1v : ∀ W : World, (zeroValue 40).run Tryd.prog W = .ok (.agg z1) W := fun W => by rw [← hz1, zero32]; kernel_rfl
  have HZ1 := Bx.mk hz1
  have HTI : Bx ((Tryd.prog.info? 32).map (·.size) = some tbl.length) := Bx.mk (tbl_size3 htb)
  have HDe := Bx.mk fun (W : World) (vp : Value) (h : Bytes W vk key) (hp : PartsR W vp [by1 n]) => rderive_any tbl htb key seeL [by1 n] vk vp W h hp hkl (by decide) (by simp) (by intro p hp; simp at hp; subst hp; simp [by1])
  have HE : Bx (numK key seeL n = hmac key (frame [seeL, by1 n])) := Bx.mk rfl
  have HL : Bx ((numK key seeL n).length = 32) := Bx.mk (hmac_length _ _)
  rw [← HE.out] at HDe
  generalize numK key seeL n = sk at *
  unfold seeL at HDe
  simp only [List.toArray] at HDe
  have HI : Bx ((Tryd.prog.info? 40).map (·.size) = some (u8s sk).size ∧ (u8s sk).size = z1.size) := Bx.mk ⟨by rw [u8s_size, HL.out]; kernel_rfl, by rw [← HZ1.out, u8s_size, u8s_size, HL.out]; rfl⟩
  have HK := Bx.mk hk
  obtain ⟨a, cap, rfl, -⟩ := hk
  obtain ⟨m, hm⟩ : ∃ m, key.length = m := ⟨_, rfl⟩
  rw [hm] at HK HDe ⊢
  clear hz1 htb hkl HE hm
  have HBn : Bx (by1 n = by1 n) := Bx.mk rfl
  have HBu := Bx.mk fun (W : World) => (built W (by1 n))
  have HBY := Bx.mk (And.intro (b_lo n) (True.intro))
  unfold by1 at HBu
  simp only [u8s, List.map_cons, List.map_nil, List.length_cons, List.length_nil, Nat.reduceAdd, List.toArray] at HBu
  obtain ⟨B, hB⟩ : ∃ B, w.heap.size = B := ⟨_, rfl⟩
  have H0 := Bx.mk (((KS.start w B hB).new (.cells tbl.toArray 32)).new (.cells z1 40))
  rw [alloc_size, hB] at H0
  have HB := Bx.mk hB
  have hn0 : (0 : Int) ≤ (n : Int) := by omega

  rw [hB]
  go_enter Tryd.func22, Tryd.ntmps22
  go_upto_region 1 with fail
  obtain ⟨w0, hw0⟩ : ∃ w0, (w.alloc (.cells tbl.toArray 32)).alloc (.cells z1 40) = w0 := ⟨_, rfl⟩
  rw [hw0] at H0 ⊢
  clear hw0
  obtain ⟨D, hD⟩ : ∃ D, w0.heap.size = D := ⟨_, rfl⟩
  have HKW := Bx.mk (HK.out.later (w1 := w0) (by rw [HB.out]; exact H0.out.below))
  have HBW := Bx.mk (HBu.out w0)
  rw [hD] at HBW
  go_wp2_with (refine wpList_load_mid rfl 32 _ rfl B 0 (by rfl) tbl _ (row_rng (H0.out.rows _ (.tail _ (.head _)))) Tryd.underlying32 rfl HTI.out ?_)
  simp only [HBY.out.1]
  obtain ⟨w1, hw1⟩ : ∃ w1, w0.alloc (.cells #[.int .u8 (ub (UInt8.ofNat (n % 256)))] 5) = w1 := ⟨_, rfl⟩
  have hs1 : w1.heap.size = D + 1 := by rw [← hw1, ← hD]; simp
  have H1 := Bx.mk (And.intro (H0.out.alloc (.cells #[.int .u8 (ub (UInt8.ofNat (n % 256)))] 5)) (HKW.out.later (below_a (.cells #[.int .u8 (ub (UInt8.ofNat (n % 256)))] 5))))
  rw [hw1] at H1 HBW ⊢
  clear hw1 H0 HKW HBu
  have H2 := Bx.mk (And.intro (H1.out.1.alloc (.cells #[.slice (some ⟨D, 0, none⟩) 1 1] 22)) (And.intro (H1.out.2.later (below_a (.cells #[.slice (some ⟨D, 0, none⟩) 1 1] 22))) (partsR_one HBW.out 22)))
  rw [hs1] at H2
  clear hs1 H1 HBW hD
  generalize w1.alloc (.cells #[.slice (some ⟨D, 0, none⟩) 1 1] 22) = w2 at *
  refine (HDe.out w2 _ H2.out.2.1 H2.out.2.2).mono ?_
  rintro e w3 ⟨rfl, hb⟩
  have H3 := Bx.mk (H2.out.1.later hb)
  clear hb H2
  go_wp2_with (refine wpList_store_new rfl 40 _ _ rfl (B + 1) (u8s sk) z1 _ (by rfl) (by rfl) (H3.out.rows _ (.head _)) HI.out.2 HI.out.1 (one_u8s _) ?_; intro w8 hw8 hr8; have hg8 := Bx.mk (kb_of hw8); have HR8 := Bx.mk hr8; clear hw8 hr8)
  refine bodyPost_ret (results_cell_row rfl _ _ (B + 1) _ (u8s sk) _ _ rfl HR8.out Tryd.underlying40 rfl HI.out.1) rfl ?_
  exact ⟨rfl, H3.out.below.trans (grown_below hg8.out (by omega) H3.out.le)⟩
set_option maxRecDepth 100000 in
set_option maxHeartbeats 1000000 in
theorem rsen_any (tbl : List Value) (htb : u32s (kTab ++ hTab) = tbl.toArray) (key : List UInt8) (n : Nat) (vk : Value) (w : World) (hk : Bytes w vk key) (hkl : key.length ≤ 1000000) (hn : n ≤ 65535) :
    Calls Tryd.prog 43 #[.agg tbl.toArray, vk, .int .i64 (n : Int)] w fun e w' => e = .returned (.agg (u8s (senK key n))) ∧ Below w.heap.size w w' := by
  obtain ⟨z1, hz1⟩ : ∃ z, u8s (List.replicate 32 0) = z := ⟨_, rfl⟩
  have hz1v : ∀ W : World, (zeroValue 40).run Tryd.prog W = .ok (.agg z1) W := fun W => by rw [← hz1, zero32]; kernel_rfl
  have HZ1 := Bx.mk hz1
  have HTI : Bx ((Tryd.prog.info? 32).map (·.size) = some tbl.length) := Bx.mk (tbl_size3 htb)
  have HDe := Bx.mk fun (W : World) (vp : Value) (h : Bytes W vk key) (hp : PartsR W vp [by2 n]) => rderive_any tbl htb key senL [by2 n] vk vp W h hp hkl (by decide) (by simp) (by intro p hp; simp at hp; subst hp; simp [by2])
  have HE : Bx (senK key n = hmac key (frame [senL, by2 n])) := Bx.mk rfl
  have HL : Bx ((senK key n).length = 32) := Bx.mk (hmac_length _ _)
  rw [← HE.out] at HDe
  generalize senK key n = sk at *
  unfold senL at HDe
  simp only [List.toArray] at HDe
  have HI : Bx ((Tryd.prog.info? 40).map (·.size) = some (u8s sk).size ∧ (u8s sk).size = z1.size) := Bx.mk ⟨by rw [u8s_size, HL.out]; kernel_rfl, by rw [← HZ1.out, u8s_size, u8s_size, HL.out]; rfl⟩
  have HK := Bx.mk hk
  obtain ⟨a, cap, rfl, -⟩ := hk
  obtain ⟨m, hm⟩ : ∃ m, key.length = m := ⟨_, rfl⟩
  rw [hm] at HK HDe ⊢
  clear hz1 htb hkl HE hm
  have HBn : Bx (by2 n = by2 n) := Bx.mk rfl
  have HBu := Bx.mk fun (W : World) => (built W (by2 n))
  have HBY := Bx.mk (And.intro (b_lo n) (b_hi n hn))
  unfold by2 at HBu
  simp only [u8s, List.map_cons, List.map_nil, List.length_cons, List.length_nil, Nat.reduceAdd, List.toArray] at HBu
  obtain ⟨B, hB⟩ : ∃ B, w.heap.size = B := ⟨_, rfl⟩
  have H0 := Bx.mk (((KS.start w B hB).new (.cells tbl.toArray 32)).new (.cells z1 40))
  rw [alloc_size, hB] at H0
  have HB := Bx.mk hB
  have hn0 : (0 : Int) ≤ (n : Int) := by omega
  have hn1 : (n : Int) ≤ 65535 := by omega
  rw [hB]
  go_enter Tryd.func43, Tryd.ntmps43
  go_upto_region 1 with fail
  obtain ⟨w0, hw0⟩ : ∃ w0, (w.alloc (.cells tbl.toArray 32)).alloc (.cells z1 40) = w0 := ⟨_, rfl⟩
  rw [hw0] at H0 ⊢
  clear hw0
  obtain ⟨D, hD⟩ : ∃ D, w0.heap.size = D := ⟨_, rfl⟩
  have HKW := Bx.mk (HK.out.later (w1 := w0) (by rw [HB.out]; exact H0.out.below))
  have HBW := Bx.mk (HBu.out w0)
  rw [hD] at HBW
  go_wp2_with (refine wpList_load_mid rfl 32 _ rfl B 0 (by rfl) tbl _ (row_rng (H0.out.rows _ (.tail _ (.head _)))) Tryd.underlying32 rfl HTI.out ?_)
  simp only [HBY.out.1, HBY.out.2]
  obtain ⟨w1, hw1⟩ : ∃ w1, w0.alloc (.cells #[.int .u8 (ub (UInt8.ofNat (n / 256 % 256))), .int .u8 (ub (UInt8.ofNat (n % 256)))] 5) = w1 := ⟨_, rfl⟩
  have hs1 : w1.heap.size = D + 1 := by rw [← hw1, ← hD]; simp
  have H1 := Bx.mk (And.intro (H0.out.alloc (.cells #[.int .u8 (ub (UInt8.ofNat (n / 256 % 256))), .int .u8 (ub (UInt8.ofNat (n % 256)))] 5)) (HKW.out.later (below_a (.cells #[.int .u8 (ub (UInt8.ofNat (n / 256 % 256))), .int .u8 (ub (UInt8.ofNat (n % 256)))] 5))))
  rw [hw1] at H1 HBW ⊢
  clear hw1 H0 HKW HBu
  have H2 := Bx.mk (And.intro (H1.out.1.alloc (.cells #[.slice (some ⟨D, 0, none⟩) 2 2] 22)) (And.intro (H1.out.2.later (below_a (.cells #[.slice (some ⟨D, 0, none⟩) 2 2] 22))) (partsR_one HBW.out 22)))
  rw [hs1] at H2
  clear hs1 H1 HBW hD
  generalize w1.alloc (.cells #[.slice (some ⟨D, 0, none⟩) 2 2] 22) = w2 at *
  refine (HDe.out w2 _ H2.out.2.1 H2.out.2.2).mono ?_
  rintro e w3 ⟨rfl, hb⟩
  have H3 := Bx.mk (H2.out.1.later hb)
  clear hb H2
  go_wp2_with (refine wpList_store_new rfl 40 _ _ rfl (B + 1) (u8s sk) z1 _ (by rfl) (by rfl) (H3.out.rows _ (.head _)) HI.out.2 HI.out.1 (one_u8s _) ?_; intro w8 hw8 hr8; have hg8 := Bx.mk (kb_of hw8); have HR8 := Bx.mk hr8; clear hw8 hr8)
  refine bodyPost_ret (results_cell_row rfl _ _ (B + 1) _ (u8s sk) _ _ rfl HR8.out Tryd.underlying40 rfl HI.out.1) rfl ?_
  exact ⟨rfl, H3.out.below.trans (grown_below hg8.out (by omega) H3.out.le)⟩
set_option maxRecDepth 100000 in
set_option maxHeartbeats 1000000 in
theorem rgra_any (tbl : List Value) (htb : u32s (kTab ++ hTab) = tbl.toArray) (key : List UInt8) (c : Cl) (n : Nat) (vk : Value) (w : World) (hk : Bytes w vk key) (hkl : key.length ≤ 1000000) (hc : okC c = true) (hn : n ≤ 65535) :
    Calls Tryd.prog 21 #[.agg tbl.toArray, vk, clV c, .int .i64 (n : Int)] w fun e w' => e = .returned (.agg (u8s (senK (secK key c) n))) ∧ Below w.heap.size w w' := by
  obtain ⟨z1, hz1⟩ : ∃ z, u8s (List.replicate 32 0) = z := ⟨_, rfl⟩
  have hz1v : ∀ W : World, (zeroValue 40).run Tryd.prog W = .ok (.agg z1) W := fun W => by rw [← hz1, zero32]; kernel_rfl
  have HZ1 := Bx.mk hz1
  have HTI : Bx ((Tryd.prog.info? 32).map (·.size) = some tbl.length) := Bx.mk (tbl_size3 htb)
  have HSec : Bx (∀ W, Bytes W vk key → Calls Tryd.prog 18 #[.agg tbl.toArray, vk, clV c] W fun e w' => e = .returned (.agg (u8s (secK key c))) ∧ Below W.heap.size W w') := Bx.mk fun W hv => rsecret_any tbl htb key c vk W hv hkl hc
  have HLs : Bx ((secK key c).length = 32) := Bx.mk (secK_length _ _)
  have HSen : Bx (∀ W vs, Bytes W vs (secK key c) → Calls Tryd.prog 43 #[.agg tbl.toArray, vs, .int .i64 (n : Int)] W fun e w' => e = .returned (.agg (u8s (senK (secK key c) n))) ∧ Below W.heap.size W w') := Bx.mk fun W vs hv => rsen_any tbl htb (secK key c) n vs W hv (by rw [HLs.out]; omega) hn
  have HL : Bx ((senK (secK key c) n).length = 32) := Bx.mk (hmac_length _ _)
  generalize senK (secK key c) n = kk at *
  generalize secK key c = sk at *
  have HI : Bx ((Tryd.prog.info? 40).map (·.size) = some (u8s sk).size ∧ (u8s sk).size = z1.size) := Bx.mk ⟨by rw [u8s_size, HLs.out]; kernel_rfl, by rw [← HZ1.out, u8s_size, u8s_size, HLs.out]; rfl⟩
  have HJ : Bx ((Tryd.prog.info? 40).map (·.size) = some (u8s kk).size ∧ (u8s kk).size = z1.size) := Bx.mk ⟨by rw [u8s_size, HL.out]; kernel_rfl, by rw [← HZ1.out, u8s_size, u8s_size, HL.out]; rfl⟩
  have HK := Bx.mk hk
  obtain ⟨a, cap, rfl, -⟩ := hk
  obtain ⟨m, hm⟩ : ∃ m, key.length = m := ⟨_, rfl⟩
  rw [hm] at HK HSec ⊢
  clear hz1 htb hkl hc hm hn
  obtain ⟨i, r, x, q⟩ := c
  unfold clV at HSec ⊢
  simp only at HSec ⊢
  obtain ⟨B, hB⟩ : ∃ B, w.heap.size = B := ⟨_, rfl⟩
  have H0 := Bx.mk ((((KS.start w B hB).new (.cells tbl.toArray 32)).new (.cells #[.int .i64 i, .int .i64 r, .int .i64 x, .int .i64 q] 24)).new (.cells z1 40))
  rw [alloc_size, alloc_size, hB] at H0
  have HB := Bx.mk hB
  rw [hB]
  go_enter Tryd.func21, Tryd.ntmps21
  go_upto_region 1 with fail
  obtain ⟨w0, hw0⟩ : ∃ w0, ((w.alloc (.cells tbl.toArray 32)).alloc (.cells #[.int .i64 i, .int .i64 r, .int .i64 x, .int .i64 q] 24)).alloc (.cells z1 40) = w0 := ⟨_, rfl⟩
  rw [hw0] at H0 ⊢
  clear hw0
  have HKW := Bx.mk (HK.out.later (w1 := w0) (by rw [HB.out]; exact H0.out.below))
  go_wp2_with (first | (refine wpList_load_mid rfl 32 _ rfl B 0 (by rfl) tbl _ (row_rng (H0.out.rows _ (.tail _ (.tail _ (.head _))))) Tryd.underlying32 rfl HTI.out ?_) | (refine wpList_load_mid rfl 24 _ rfl (B + 1) 0 (by rfl) [.int .i64 i, .int .i64 r, .int .i64 x, .int .i64 q] _ (row_rng (l := [.int .i64 i, .int .i64 r, .int .i64 x, .int .i64 q]) (H0.out.rows _ (.tail _ (.head _)))) Tryd.underlying24 rfl (by kernel_rfl) ?_))
  refine (HSec.out w0 HKW.out).mono ?_
  rintro e w1 ⟨rfl, hb⟩
  have H1 := Bx.mk (H0.out.later hb)
  clear hb H0
  obtain ⟨D, hD⟩ : ∃ D, w1.heap.size = D := ⟨_, rfl⟩
  have H2 := Bx.mk (And.intro (H1.out.new (.cells z1 40)) (And.intro (show B ≤ D from by rw [← hD]; exact H1.out.le) (show B + 1 + 1 < D from by rw [← hD]; exact H1.out.lt (.head _))))
  rw [hD] at H2
  clear H1
  go_upto_region 2 with (refine wpList_store_new rfl 40 _ _ rfl D (u8s sk) z1 _ (by rfl) (by rfl) (H2.out.1.rows _ (.head _)) HI.out.2 HI.out.1 (one_u8s _) ?_; intro w3 hw8 hr8; have hg8 := Bx.mk (kb_of hw8); have HR8 := Bx.mk hr8; clear hw8 hr8)
  have R0 := Bx.mk (H2.out.1.set hg8.out HR8.out H2.out.2.1 (by intro y hy; have := H2.out.2.2; simp at hy; rcases hy with rfl | rfl | rfl <;> (simp only; omega))).drew
  have HBD := Bx.mk H2.out.2
  clear H2 hg8 HR8 hD
  refine wp_region_noPanic ?_
  refine wp_region_held_drew (S := fun W => W.rangeAt B 0 tbl) (by kernel_rfl) ((row_rng (R0.out.rows _ (.tail _ (.tail _ (.tail _ (.head _))))))) (fun hHeld => ?_)
  generalize w3.drew = W0 at *
  refine takeL 0 rfl (by kernel_rfl) (by kernel_rfl) (by kernel_rfl) (fun _ _ _ h => h) (yieldsIf_load_mid (by rfl) _ _ rfl _ _ rfl _ _ (fun w hSw => hSw) Tryd.underlying32 rfl HTI.out) hHeld ?_
  try simp only [Act.put, List.setIfInBounds_toArray, List.set_cons_zero, List.set_cons_succ]
  refine takeL 1 (v := ?_) rfl (by kernel_rfl) (by kernel_rfl) (by kernel_rfl) (fun _ _ _ h => h) (Or.inl ⟨by rfl, ?_⟩) hHeld ?_
  rotate_left 1
  · (intro w hSw; go_simp; try with_reducible rfl)
  try simp only [Act.put, List.setIfInBounds_toArray, List.set_cons_zero, List.set_cons_succ]
  refine takeL 2 (v := ?_) rfl (by kernel_rfl) (by kernel_rfl) (by kernel_rfl) (fun _ _ _ h => h) (Or.inl ⟨by rfl, ?_⟩) hHeld ?_
  rotate_left 1
  · (intro w hSw; go_simp; try with_reducible rfl)
  try simp only [Act.put, List.setIfInBounds_toArray, List.set_cons_zero, List.set_cons_succ]
  refine stepL 3 (by kernel_rfl) rfl (fun K hK => ?_)
  go_simp
  refine (HSen.out W0 _ (row_bytes (R0.out.rows _ (.head _)) HLs.out)).mono ?_
  rintro e W1 ⟨rfl, hb⟩
  show K _ _
  have R1 := Bx.mk (R0.out.later hb)
  clear hb R0
  refine hK.out _ _ (row_rng (R1.out.rows _ (.tail _ (.tail _ (.tail _ (.head _)))))) (fun hHeld => ?_)
  clear hK K
  try simp only [Act.put, List.setIfInBounds_toArray, List.set_cons_zero, List.set_cons_succ]
  refine stepL 4 (by kernel_rfl) rfl (fun K hK => ?_)
  refine step_st rfl 40 _ _ rfl (B + 1 + 1) (u8s kk) (by rfl) (by rfl) (there_row (R1.out.rows _ (.tail _ (.head _))) 0 _ (by rw [HJ.out.2]; omega)) HJ.out.1 (one_u8s _) ?_
  have hr2 := heap_setCells_all (ds := u8s kk) (R1.out.rows _ (.tail _ (.head _))) HJ.out.2
  have R2 := Bx.mk (R1.out.swap.set (kb_setCells (u8s kk).toList 0 W1) hr2 (by omega) (by intro y hy; have := HBD.out.2; simp at hy; rcases hy with rfl | rfl | rfl <;> (simp only; omega)))
  clear hr2 R1
  refine hK.out _ _ (row_rng (R2.out.rows _ (.tail _ (.tail _ (.tail _ (.head _)))))) (fun hHeld => ?_)
  clear hK K
  try simp only [Act.put]
  refine wpAnyH_done (by kernel_rfl) ?_ _
  refine NoPanic.normal ?_
  clear hHeld
  go_wp2
  refine bodyPost_ret (results_cell_row rfl _ _ (B + 1 + 1) _ (u8s kk) _ _ rfl (R2.out.rows _ (.head _)) Tryd.underlying40 rfl HJ.out.1) rfl ?_
  exact ⟨rfl, R2.out.below⟩
end Go.Proofs.YtdionedinmkeiaaDoor
