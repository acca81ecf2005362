/-
  The walks of Check, and of the statement on tags.
-/
import Derived.Test.YtkfgpnigeknhmaaDoorMe
import Derived.Test.YtkfgpnigeknhmaaDoorMg
import Derived.Test.YtkfgpnigeknhmaaDoorMi
namespace Go.Proofs.YtkfgpnigeknhmaaDoor
open Go Go.RowKit
theorem hmac_length (k m : List UInt8) : (hmac k m).length = 32 := sha_length _
theorem cut_totalQ (pss : List (List UInt8)) : (cutQ pss).length ≤ 8 ∧ (cutQ pss).flatten.length ≤ 480 := by
  refine ⟨?_, few_lenQ pss 8⟩
  unfold cutQ
  rw [List.length_map, List.length_take]
  omega
set_option maxRecDepth 100000 in
set_option maxHeartbeats 1000000 in
theorem check_any (key tag : List UInt8) (pss : List (List UInt8)) (v vt vp : Value) (w : World) (hv : Bytes w v key) (ht : Bytes w vt tag) (hp : Parts w vp pss) (hl : key.length ≤ 1000000) (hlt : tag.length ≤ 1000000) (hl2 : pss.length ≤ 1000000) (hl3 : pss.flatten.length ≤ 100000000) (hTab : Tab w) (hg : 0 < w.heap.size) :
    Calls Tryd.prog 29 #[v, vt, vp] w fun e w' => e = .returned (.bool (decide (hmac key pss.flatten = tag))) ∧ Below w.heap.size w w' := by
  have HV := Bx.mk hv
  have HT := Bx.mk ht
  have HP := Bx.mk hp
  have HL := Bx.mk (And.intro hl (And.intro hl2 (And.intro hl3 hlt)))
  have HA := Bx.mk hTab
  clear hv ht hp hl hl2 hl3 hlt hTab
  obtain ⟨d, hd⟩ : ∃ d, decide (hmac key pss.flatten = tag) = d := ⟨_, rfl⟩
  have HD := Bx.mk hd
  rw [hd]
  clear hd
  go_enter Tryd.func29, Tryd.ntmps29
  go_wp2_with fail
  refine (tag_any key pss v vp w HV.out HP.out HL.out.1 HL.out.2.1 HL.out.2.2.1 HA.out hg).mono ?_
  rintro e w1 ⟨rfl, hb1⟩
  have H1 := Bx.mk hb1
  clear hb1
  have HSL : Bx ((hmac key pss.flatten).length = 32) := Bx.mk (hmac_length _ _)
  generalize hmac key pss.flatten = hm at *
  have HI : Bx ((Tryd.prog.info? 26).map (·.size) = some (u8s hm).size) := Bx.mk (by rw [u8s_size, HSL.out]; kernel_rfl)
  have HZ : Bx ((u8s hm).size = (u8s (List.replicate 32 0)).size) := Bx.mk (by rw [u8s_size, u8s_size, HSL.out]; rfl)
  go_wp2_with (refine wpList_store_var rfl 26 _ _ rfl w1 _ _ rfl (by rfl) (u8s hm) (by rfl) HZ.out HI.out (one_u8s _) ?_; intro w2 hb2 hr2 hl2)
  have H2 : Bx (Below w.heap.size w w2 ∧ Bytes w2 (.slice (some ⟨w1.heap.size, 0, none⟩) 32 32) hm ∧ Bytes w2 vt tag) := Bx.mk ⟨H1.out.trans (hb2.mono H1.out.size), row_bytes hr2 HSL.out, (HT.out.later H1.out).later hb2⟩
  clear hb2 hr2 hl2 HI HZ H1
  refine (equal_any hm tag _ _ w2 H2.out.2.1 H2.out.2.2 (by rw [HSL.out]; omega) (by have := HL.out; omega)).mono ?_
  rintro e w3 ⟨rfl, n3, rfl⟩
  have H3 : Bx (Below w.heap.size w (w2.drewN n3)) := Bx.mk (below_drewN H2.out.1 _)
  rw [HD.out]
  go_wp2
  go_ret
  exact ⟨rfl, H3.out⟩
set_option maxRecDepth 100000 in
set_option maxHeartbeats 2000000 in
theorem tags_any (key tag : List UInt8) (pss : List (List UInt8)) (v vt vp : Value) (w : World) (hv : Bytes w v key) (hp : Parts w vp pss) (ht : Bytes w vt tag) (hl : key.length ≤ 9223372036854775807) (hn : pss.length ≤ 9223372036854775807) (hpl : ∀ p ∈ pss, p.length ≤ 9223372036854775807) (hlt : tag.length ≤ 9223372036854775807) (hTab : Tab w) (hg : 0 < w.heap.size) :
    Calls Tryd.prog 6 #[v, vp, vt] w fun e w' => e = .returned (.bool true) ∧ Below w.heap.size w w' := by
  have HV := Bx.mk hv
  have HU := Bx.mk ht
  have HP := Bx.mk (And.intro hp (And.intro hn hpl))
  have HA := Bx.mk hTab
  obtain ⟨a, cap, rfl, hc, hnone, -⟩ := hv
  obtain ⟨a2, cap2, rfl, hc2, hnone2, -⟩ := ht
  obtain ⟨n, hnn⟩ : ∃ n, key.length = n := ⟨_, rfl⟩
  obtain ⟨k, hkk⟩ : ∃ k, tag.length = k := ⟨_, rfl⟩
  obtain ⟨m, hm⟩ : ∃ m, m = min n 150 := ⟨_, rfl⟩
  obtain ⟨q, hq⟩ : ∃ q, q = min k 40 := ⟨_, rfl⟩
  have m1 : (if (150 : Int) < (n : Int) then (150 : Int) else (n : Int)) = (m : Int) := by split <;> omega
  have q1 : (if (40 : Int) < (k : Int) then (40 : Int) else (k : Int)) = (q : Int) := by split <;> omega
  have s1 := fun W => cut_bytes a n cap m (by omega) (by omega) hnone W
  have s2 := fun W => cut_bytes a2 k cap2 q (by omega) (by omega) hnone2 W
  rw [hnn] at hl hc HV ⊢
  rw [hkk] at hlt hc2 HU ⊢
  have HB : Bx (Bytes w (.slice a m cap) (key.take m) ∧ Bytes w (.slice a2 q cap2) (tag.take q)) := Bx.mk ⟨HV.out.take m (by omega), HU.out.take q (by omega)⟩
  have HBL : Bx ((key.take m).length ≤ 150 ∧ (tag.take q).length ≤ 40) := Bx.mk (by rw [List.length_take, List.length_take]; omega)
  generalize key.take m = x at *
  generalize tag.take q = y at *
  have hn1 : (n : Int) ≤ 9223372036854775807 := by omega
  have hk1 : (k : Int) ≤ 9223372036854775807 := by omega
  clear hnn hkk hTab hnone hnone2 hm hq hl hlt hc hc2 HV HU hp hn hpl
  go_enter Tryd.func6, Tryd.ntmps6
  go_wp2
  go_big_quiet (fail)
  clear s1 s2 m1 q1 hn1 hk1
  have H0 : Bx (Bytes (w.drewN nq) (.slice a m cap) x ∧ Bytes (w.drewN nq) (.slice a2 q cap2) y ∧ Tab (w.drewN nq) ∧ Below w.heap.size w (w.drewN nq) ∧ Parts (w.drewN nq) vp pss) := Bx.mk ⟨HB.out.1, HB.out.2, HA.out, below_drewN (Below.refl _ _) _, HP.out.1⟩
  clear HB HA
  go_wp2_with fail
  generalize w.drewN nq = w0 at *
  refine (few2_any pss vp w0 H0.out.2.2.2.2 HP.out.2.1 HP.out.2.2).mono ?_
  rintro e w1 ⟨vo, va, xs, rfl, hvals, hop, hob, hbel⟩
  have H1 : Bx (Parts w1 vo (cutQ pss) ∧ Bytes w1 va (cutQ pss).flatten ∧ Tab w1 ∧ Below w.heap.size w w1 ∧ Bytes w1 (.slice a m cap) x ∧ Bytes w1 (.slice a2 q cap2) y) := Bx.mk ⟨own_parts hop (hvals.later hbel), hob.bytes, H0.out.2.2.1.later hbel (Nat.lt_of_lt_of_le hg H0.out.2.2.2.1.size), H0.out.2.2.2.1.trans (hbel.mono H0.out.2.2.2.1.size), H0.out.1.later hbel, H0.out.2.1.later hbel⟩
  have HC := Bx.mk (cut_totalQ pss)
  obtain ⟨aa, ca, hva, -, -⟩ := bytes_form hob.bytes
  obtain ⟨nn, hnn⟩ : ∃ nn, (cutQ pss).flatten.length = nn := ⟨_, rfl⟩
  rw [hnn] at hva
  clear hnn hob
  subst hva
  obtain ⟨a5, c5, hvo, -⟩ := H1.out.1
  obtain ⟨n5, hn5⟩ : ∃ nn, (cutQ pss).length = nn := ⟨_, rfl⟩
  rw [hn5] at hvo
  clear hn5
  subst hvo
  generalize cutQ pss = qs at *
  clear hvals hop hbel HP H0
  go_wp2_with fail
  refine (make_any w1).mono ?_
  rintro e w2 ⟨rfl, hb2⟩
  have later : ∀ {W W' : World}, (Parts W (.slice a5 n5 c5) qs ∧ Bytes W (.slice aa nn ca) qs.flatten ∧ Tab W ∧ Below w.heap.size w W ∧ Bytes W (.slice a m cap) x ∧ Bytes W (.slice a2 q cap2) y) → Below W.heap.size W W' → (Parts W' (.slice a5 n5 c5) qs ∧ Bytes W' (.slice aa nn ca) qs.flatten ∧ Tab W' ∧ Below w.heap.size w W' ∧ Bytes W' (.slice a m cap) x ∧ Bytes W' (.slice a2 q cap2) y) := fun h hb => ⟨h.1.later hb, h.2.1.later hb, h.2.2.1.later hb (Nat.lt_of_lt_of_le hg h.2.2.2.1.size), h.2.2.2.1.trans (hb.mono h.2.2.2.1.size), h.2.2.2.2.1.later hb, h.2.2.2.2.2.later hb⟩
  have HLt := Bx.mk @later
  clear later
  have H2 := Bx.mk (HLt.out H1.out hb2)
  clear hb2 H1
  obtain ⟨tbl, htb⟩ : ∃ tbl : List Value, u32s (kTab ++ hTab) = tbl.toArray := ⟨(u32s (kTab ++ hTab)).toList, by simp⟩
  have HR : Bx (Calls Tryd.prog 26 #[.agg tbl.toArray, .slice a m cap, .slice aa nn ca] w2 fun e w' => e = .returned (.agg (u8s (hmac x qs.flatten))) ∧ Below w2.heap.size w2 w') := Bx.mk (rtag_any tbl htb x qs.flatten _ _ w2 H2.out.2.2.2.2.1 H2.out.2.1 (by have := HBL.out; omega) (by have := HC.out; omega))
  rw [htb]
  clear htb
  go_wp2_with fail
  refine HR.out.mono ?_
  rintro e w3 ⟨rfl, hb3⟩
  have H3 := Bx.mk (HLt.out H2.out hb3)
  clear hb3 H2 HR
  have HSL : Bx ((hmac x qs.flatten).length = 32) := Bx.mk (hmac_length _ _)
  have HI : Bx ((Tryd.prog.info? 26).map (·.size) = some (u8s (hmac x qs.flatten)).size) := Bx.mk (by rw [u8s_size, HSL.out]; kernel_rfl)
  have HZ : Bx ((u8s (hmac x qs.flatten)).size = (u8s (List.replicate 32 0)).size) := Bx.mk (by rw [u8s_size, u8s_size, HSL.out]; rfl)
  go_upto_region 4 with (refine wpList_store_var rfl 26 _ _ rfl w3 _ _ rfl (by rfl) (u8s (hmac x qs.flatten)) (by rfl) HZ.out HI.out (one_u8s _) ?_; intro w4 hb4 hr4 hl4)
  have H4 := Bx.mk (HLt.out H3.out hb4)
  have HB4 : Bx (w4.heap[w3.heap.size]? = some (.cells (u8s (hmac x qs.flatten)) 26 (0, 0)) ∧ w3.heap.size < w4.heap.size) := Bx.mk ⟨hr4, hl4⟩
  clear hb4 hr4 hl4 H3 HI HZ
  generalize w3.heap.size = B at *
  have HG : Bx (0 < w4.heap.size) := Bx.mk (Nat.lt_of_lt_of_le hg H4.out.2.2.2.1.size)
  have HS0 : Bx (Sp w4 B (vs8 (hmac x qs.flatten)) w4.drew) := Bx.mk ⟨(Below.refl _ _).drew, range_u8 (w := w4.drew) HB4.out.1⟩
  have HKn : Bx (∀ W, W.rangeAt B 0 (vs8 (hmac x qs.flatten)) ∧ Bx (Sp w4 B (vs8 (hmac x qs.flatten)) W) → Calls Tryd.prog 27 #[] W fun e W' => e = .returned (.bool true) ∧ W'.rangeAt B 0 (vs8 (hmac x qs.flatten)) ∧ Bx (Sp w4 B (vs8 (hmac x qs.flatten)) W')) := Bx.mk (fun W hS => have hW := hS.2.out
    (known2_any W (H4.out.2.2.1.later hW.below HG.out) (Nat.lt_of_lt_of_le HG.out hW.below.size)).mono fun _ _ ⟨he, hb⟩ => ⟨he, (hW.later hb HB4.out.2).s⟩)
  have HTg : Bx (∀ W, W.rangeAt B 0 (vs8 (hmac x qs.flatten)) ∧ Bx (Sp w4 B (vs8 (hmac x qs.flatten)) W) → Calls Tryd.prog 28 #[.slice a m cap, .slice a5 n5 c5] W fun e W' => e = .returned (.agg (vs8 (hmac x qs.flatten)).toArray) ∧ W'.rangeAt B 0 (vs8 (hmac x qs.flatten)) ∧ Bx (Sp w4 B (vs8 (hmac x qs.flatten)) W')) := Bx.mk (fun W hS => have hW := hS.2.out
    (tag_any x qs _ _ W (H4.out.2.2.2.2.1.later hW.below) (H4.out.1.later hW.below) (by have := HBL.out; omega) (by have := HC.out; omega) (by have := HC.out; omega) (H4.out.2.2.1.later hW.below HG.out) (Nat.lt_of_lt_of_le HG.out hW.below.size)).mono fun _ _ ⟨he, hb⟩ => ⟨he, (hW.later hb HB4.out.2).s⟩)
  have HWt : Bx (∀ W, Below w4.heap.size w4 W → Bytes W (.slice (some ⟨B, 0, none⟩) 32 32) (hmac x qs.flatten)) := Bx.mk (fun W hb => (row_bytes HB4.out.1 HSL.out).later hb)
  have HC1 : Bx (∀ W, W.rangeAt B 0 (vs8 (hmac x qs.flatten)) ∧ Bx (Sp w4 B (vs8 (hmac x qs.flatten)) W) → Calls Tryd.prog 29 #[.slice a m cap, .slice (some ⟨B, 0, none⟩) 32 32, .slice a5 n5 c5] W fun e W' => e = .returned (.bool true) ∧ W'.rangeAt B 0 (vs8 (hmac x qs.flatten)) ∧ Bx (Sp w4 B (vs8 (hmac x qs.flatten)) W')) := Bx.mk (fun W hS => by
    have hW := hS.2.out
    have h := check_any x (hmac x qs.flatten) qs _ _ _ W (H4.out.2.2.2.2.1.later hW.below) (HWt.out W hW.below) (H4.out.1.later hW.below) (by have := HBL.out; omega) (by rw [HSL.out]; omega) (by have := HC.out; omega) (by have := HC.out; omega) (H4.out.2.2.1.later hW.below HG.out) (Nat.lt_of_lt_of_le HG.out hW.below.size)
    rw [decide_eq_true (rfl : hmac x qs.flatten = hmac x qs.flatten)] at h
    exact h.mono fun _ _ ⟨he, hb⟩ => ⟨he, (hW.later hb HB4.out.2).s⟩)
  obtain ⟨d, hd⟩ : ∃ d, decide (hmac x qs.flatten = y) = d := ⟨_, rfl⟩
  have HC2 : Bx (∀ W, W.rangeAt B 0 (vs8 (hmac x qs.flatten)) ∧ Bx (Sp w4 B (vs8 (hmac x qs.flatten)) W) → Calls Tryd.prog 29 #[.slice a m cap, .slice a2 q cap2, .slice a5 n5 c5] W fun e W' => e = .returned (.bool d) ∧ W'.rangeAt B 0 (vs8 (hmac x qs.flatten)) ∧ Bx (Sp w4 B (vs8 (hmac x qs.flatten)) W')) := Bx.mk (fun W hS => by
    have hW := hS.2.out
    rw [← hd]
    exact (check_any x y qs _ _ _ W (H4.out.2.2.2.2.1.later hW.below) (H4.out.2.2.2.2.2.later hW.below) (H4.out.1.later hW.below) (by have := HBL.out; omega) (by have := HBL.out; omega) (by have := HC.out; omega) (by have := HC.out; omega) (H4.out.2.2.1.later hW.below HG.out) (Nat.lt_of_lt_of_le HG.out hW.below.size)).mono fun _ _ ⟨he, hb⟩ => ⟨he, (hW.later hb HB4.out.2).s⟩)
  have HSm : Bx (∀ W, W.rangeAt B 0 (vs8 (hmac x qs.flatten)) ∧ Bx (Sp w4 B (vs8 (hmac x qs.flatten)) W) → Calls Tryd.prog 24 #[.slice a2 q cap2, .slice (some ⟨B, 0, none⟩) 32 32] W fun e W' => e = .returned (.bool d) ∧ W'.rangeAt B 0 (vs8 (hmac x qs.flatten)) ∧ Bx (Sp w4 B (vs8 (hmac x qs.flatten)) W')) := Bx.mk (fun W hS => by
    have hW := hS.2.out
    have e : decide (y = hmac x qs.flatten) = d := by rw [← hd]; exact decide_eq_decide.2 eq_comm
    have h := same_any y (hmac x qs.flatten) _ _ W (H4.out.2.2.2.2.2.later hW.below) (HWt.out W hW.below) (by have := HBL.out; omega) (by rw [HSL.out]; omega)
    rw [e] at h
    exact h.mono fun _ _ ⟨he, n, hb⟩ => ⟨he, by rw [hb]; exact (hW.later (below_drewN (Below.refl _ _) _) HB4.out.2).s⟩)
  clear hd
  have eq1 := eqv (hmac x qs.flatten) HSL.out
  have hg26 : Tryd.prog.eqGuardType Tryd.prog.depth 26 = false := by kernel_rfl
  have hu26 := Tryd.underlying26
  have hi26 : (Tryd.prog.info? 26).map (·.size) = some (vs8 (hmac x qs.flatten)).length := by rw [vs8_length, HSL.out]; kernel_rfl
  generalize (vs8 (hmac x qs.flatten)) = out at *
  refine wp_region_noPanic ?_
  refine wp_region_held_drew (S := fun W => W.rangeAt B 0 out ∧ Bx (Sp w4 B out W)) (by kernel_rfl) (HS0.out.s) (fun hHeld => ?_)
  refine stepL 0 (by kernel_rfl) rfl (fun K hK => ?_)
  go_simp
  refine (HKn.out _ hHeld).mono ?_
  rintro e W1 ⟨rfl, hs⟩
  show K _ _
  refine hK.out _ _ (hs) (fun hHeld => ?_)
  clear hK K
  try simp only [Act.put, List.setIfInBounds_toArray, List.set_cons_zero, List.set_cons_succ]
  refine takeL 1 (v := ?_) rfl (by kernel_rfl) (by kernel_rfl) (by kernel_rfl) (fun _ _ _ h => h) (Or.inl ⟨by rfl, ?_⟩) hHeld ?_
  rotate_left 1
  · (intro w hSw; go_simp; try with_reducible rfl)
  try simp only [Act.put, List.setIfInBounds_toArray, List.set_cons_zero, List.set_cons_succ]
  refine takeL 2 (v := ?_) rfl (by kernel_rfl) (by kernel_rfl) (by kernel_rfl) (fun _ _ _ h => h) (Or.inl ⟨by rfl, ?_⟩) hHeld ?_
  rotate_left 1
  · (intro w hSw; go_simp; try with_reducible rfl)
  try simp only [Act.put, List.setIfInBounds_toArray, List.set_cons_zero, List.set_cons_succ]
  refine takeL 3 (v := ?_) rfl (by kernel_rfl) (by kernel_rfl) (by kernel_rfl) (fun _ _ _ h => h) (Or.inl ⟨by rfl, ?_⟩) hHeld ?_
  rotate_left 1
  · (intro w hSw; go_simp; try with_reducible rfl)
  try simp only [Act.put, List.setIfInBounds_toArray, List.set_cons_zero, List.set_cons_succ]
  refine takeL 5 rfl (by kernel_rfl) (by kernel_rfl) (by kernel_rfl) (fun _ _ _ h => h) (yieldsIf_load_mid (by rfl) _ _ rfl _ _ rfl _ _ (fun w hSw => hSw.1) hu26 rfl hi26) hHeld ?_
  try simp only [Act.put, List.setIfInBounds_toArray, List.set_cons_zero, List.set_cons_succ]
  refine stepL 4 (by kernel_rfl) rfl (fun K hK => ?_)
  go_simp
  refine (HTg.out _ hHeld).mono ?_
  rintro e W2 ⟨rfl, hs⟩
  show K _ _
  refine hK.out _ _ (hs) (fun hHeld => ?_)
  clear hK K
  try simp only [Act.put, List.setIfInBounds_toArray, List.set_cons_zero, List.set_cons_succ]
  refine takeL 6 (v := ?_) rfl (by kernel_rfl) (by kernel_rfl) (by kernel_rfl) (fun _ _ _ h => h) (Or.inl ⟨by rfl, ?_⟩) hHeld ?_
  rotate_left 1
  · (intro w hSw; go_simp; try with_reducible rfl)
  try simp only [Act.put, List.setIfInBounds_toArray, List.set_cons_zero, List.set_cons_succ]
  refine takeL 7 (v := ?_) rfl (by kernel_rfl) (by kernel_rfl) (by kernel_rfl) (fun _ _ _ h => h) (Or.inl ⟨by rfl, ?_⟩) hHeld ?_
  rotate_left 1
  · (intro w hSw; go_simp; try with_reducible rfl)
  try simp only [Act.put, List.setIfInBounds_toArray, List.set_cons_zero, List.set_cons_succ]
  refine takeL 8 (v := ?_) rfl (by kernel_rfl) (by kernel_rfl) (by kernel_rfl) (fun _ _ _ h => h) (Or.inl ⟨by rfl, ?_⟩) hHeld ?_
  rotate_left 1
  · (intro w hSw; go_simp; try with_reducible rfl)
  try simp only [Act.put, List.setIfInBounds_toArray, List.set_cons_zero, List.set_cons_succ]
  refine takeL 9 (v := ?_) rfl (by kernel_rfl) (by kernel_rfl) (by kernel_rfl) (fun _ _ _ h => h) (Or.inl ⟨by rfl, ?_⟩) hHeld ?_
  rotate_left 1
  · (intro w hSw; go_simp; try with_reducible rfl)
  try simp only [Act.put, List.setIfInBounds_toArray, List.set_cons_zero, List.set_cons_succ]
  refine takeL 10 (v := ?_) rfl (by kernel_rfl) (by kernel_rfl) (by kernel_rfl) (fun _ _ _ h => h) (Or.inl ⟨by rfl, ?_⟩) hHeld ?_
  rotate_left 1
  · (intro w hSw; go_simp; try with_reducible rfl)
  try simp only [Act.put, List.setIfInBounds_toArray, List.set_cons_zero, List.set_cons_succ]
  refine takeL 11 (v := ?_) rfl (by kernel_rfl) (by kernel_rfl) (by kernel_rfl) (fun _ _ _ h => h) (Or.inl ⟨by rfl, ?_⟩) hHeld ?_
  rotate_left 1
  · (intro w hSw; go_simp; try with_reducible rfl)
  try simp only [Act.put, List.setIfInBounds_toArray, List.set_cons_zero, List.set_cons_succ]
  refine stepL 12 (by kernel_rfl) rfl (fun K hK => ?_)
  go_simp
  refine (HC1.out _ hHeld).mono ?_
  rintro e W3 ⟨rfl, hs⟩
  show K _ _
  refine hK.out _ _ (hs) (fun hHeld => ?_)
  clear hK K
  try simp only [Act.put, List.setIfInBounds_toArray, List.set_cons_zero, List.set_cons_succ]
  refine takeL 13 (v := ?_) rfl (by kernel_rfl) (by kernel_rfl) (by kernel_rfl) (fun _ _ _ h => h) (Or.inl ⟨by rfl, ?_⟩) hHeld ?_
  rotate_left 1
  · (intro w hSw; go_simp; try with_reducible rfl)
  try simp only [Act.put, List.setIfInBounds_toArray, List.set_cons_zero, List.set_cons_succ]
  refine takeL 14 (v := ?_) rfl (by kernel_rfl) (by kernel_rfl) (by kernel_rfl) (fun _ _ _ h => h) (Or.inl ⟨by rfl, ?_⟩) hHeld ?_
  rotate_left 1
  · (intro w hSw; go_simp; try with_reducible rfl)
  try simp only [Act.put, List.setIfInBounds_toArray, List.set_cons_zero, List.set_cons_succ]
  refine takeL 15 (v := ?_) rfl (by kernel_rfl) (by kernel_rfl) (by kernel_rfl) (fun _ _ _ h => h) (Or.inl ⟨by rfl, ?_⟩) hHeld ?_
  rotate_left 1
  · (intro w hSw; go_simp; try with_reducible rfl)
  try simp only [Act.put, List.setIfInBounds_toArray, List.set_cons_zero, List.set_cons_succ]
  refine takeL 16 (v := ?_) rfl (by kernel_rfl) (by kernel_rfl) (by kernel_rfl) (fun _ _ _ h => h) (Or.inl ⟨by rfl, ?_⟩) hHeld ?_
  rotate_left 1
  · (intro w hSw; go_simp; try with_reducible rfl)
  try simp only [Act.put, List.setIfInBounds_toArray, List.set_cons_zero, List.set_cons_succ]
  refine takeL 17 (v := ?_) rfl (by kernel_rfl) (by kernel_rfl) (by kernel_rfl) (fun _ _ _ h => h) (Or.inl ⟨by rfl, ?_⟩) hHeld ?_
  rotate_left 1
  · (intro w hSw; go_simp; try with_reducible rfl)
  try simp only [Act.put, List.setIfInBounds_toArray, List.set_cons_zero, List.set_cons_succ]
  refine takeL 19 (v := ?_) rfl (by kernel_rfl) (by kernel_rfl) (by kernel_rfl) (fun _ _ _ h => h) (Or.inl ⟨by rfl, ?_⟩) hHeld ?_
  rotate_left 1
  · (intro w hSw; go_simp; try with_reducible rfl)
  try simp only [Act.put, List.setIfInBounds_toArray, List.set_cons_zero, List.set_cons_succ]
  refine takeL 20 (v := ?_) rfl (by kernel_rfl) (by kernel_rfl) (by kernel_rfl) (fun _ _ _ h => h) (Or.inl ⟨by rfl, ?_⟩) hHeld ?_
  rotate_left 1
  · (intro w hSw; go_simp; try with_reducible rfl)
  try simp only [Act.put, List.setIfInBounds_toArray, List.set_cons_zero, List.set_cons_succ]
  refine stepL 18 (by kernel_rfl) rfl (fun K hK => ?_)
  go_simp
  refine (HC2.out _ hHeld).mono ?_
  rintro e W4 ⟨rfl, hs⟩
  show K _ _
  refine hK.out _ _ (hs) (fun hHeld => ?_)
  clear hK K
  try simp only [Act.put, List.setIfInBounds_toArray, List.set_cons_zero, List.set_cons_succ]
  refine stepL 21 (by kernel_rfl) rfl (fun K hK => ?_)
  go_simp
  refine (HSm.out _ hHeld).mono ?_
  rintro e W5 ⟨rfl, hs⟩
  show K _ _
  refine hK.out _ _ (hs) (fun hHeld => ?_)
  clear hK K
  try simp only [Act.put, List.setIfInBounds_toArray, List.set_cons_zero, List.set_cons_succ]
  refine takeL 22 (v := ?_) rfl (by kernel_rfl) (by kernel_rfl) (by kernel_rfl) (fun _ _ _ h => h) (Or.inl ⟨by rfl, ?_⟩) hHeld ?_
  rotate_left 1
  · (intro w hSw; go_simp; try with_reducible rfl)
  try simp only [Act.put, List.setIfInBounds_toArray, List.set_cons_zero, List.set_cons_succ]
  refine takeL 23 (v := ?_) rfl (by kernel_rfl) (by kernel_rfl) (by kernel_rfl) (fun _ _ _ h => h) (Or.inl ⟨by rfl, ?_⟩) hHeld ?_
  rotate_left 1
  · (intro w hSw; go_simp; try with_reducible rfl)
  try simp only [Act.put, List.setIfInBounds_toArray, List.set_cons_zero, List.set_cons_succ]
  refine takeL 24 (v := ?_) rfl (by kernel_rfl) (by kernel_rfl) (by kernel_rfl) (fun _ _ _ h => h) (Or.inl ⟨by rfl, ?_⟩) hHeld ?_
  rotate_left 1
  · (intro w hSw; go_simp; try with_reducible rfl)
  try simp only [Act.put, List.setIfInBounds_toArray, List.set_cons_zero, List.set_cons_succ]
  refine wpAnyH_done (by kernel_rfl) ?_ _
  have HF : Bx (Below w.heap.size w W5) := Bx.mk (H4.out.2.2.2.1.trans (hHeld.2.out.below.mono H4.out.2.2.2.1.size))
  clear hHeld HS0 HKn HTg HC1 HC2 HSm HWt eq1 hg26 hu26 hi26 HLt
  refine NoPanic.normal ?_
  go_wp2
  go_ret
  exact ⟨rfl, HF.out⟩
end Go.Proofs.YtkfgpnigeknhmaaDoor
