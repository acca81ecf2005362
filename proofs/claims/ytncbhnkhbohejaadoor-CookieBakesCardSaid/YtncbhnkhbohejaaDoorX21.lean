/-
  CookieBakes: what is baked, and how long it is fresh.
-/
import Derived.Test.YtncbhnkhbohejaaDoorX16
import Derived.Test.YtncbhnkhbohejaaDoorX18
namespace Go.Proofs.YtncbhnkhbohejaaDoor
open Go Go.RowKit
set_option maxRecDepth 100000 in
set_option maxHeartbeats 4000000 in
theorem cbak_b3 (bs : List UInt8) (pss : List (List UInt8)) (v vp : Value) (a t : Nat) (l : Int) (w : World) (hv : Bytes w v bs) (hl : bs.length ≤ 9223372036854775807) (hvp : Parts w vp pss) (hpn : pss.length ≤ 9223372036854775807) (hpl : ∀ p ∈ pss, p.length ≤ 9223372036854775807) (hTb : Tab w) (hg : 0 < w.heap.size)
    (hr : rightQ (a : Int) (t : Int) = true) (u : Nat) (hu : l % 18446744073709551616 % 300 = (u : Int)) (hr2 : rightQ (a : Int) ((t : Int) + (u : Int)) = true) (he : (t / 64 + 2) * 64 ≤ (t + u)) (hf : freK (keyQ bs) ((t + u) / 64) a (cut3Q pss) (cookK (keyQ bs) (t / 64) a (cut3Q pss)) = true) :
    Calls Tryd.prog 3 #[v, .int .i64 (a : Int), .int .i64 (t : Int), .int .i64 l, vp] w fun e w' => e = .returned (.bool true) ∧ Below w.heap.size w w' := by
  obtain ⟨z16, hz16⟩ : ∃ z, u8s (List.replicate 16 0) = z := ⟨_, rfl⟩
  have hz16v := (z16_facts hz16).1
  have HZI := Bx.mk (z16_facts hz16).2.2
  have HBa := Bx.mk (baker10_any bs v w hv hl)
  have HFe := Bx.mk fun (W : World) (hb : Below w.heap.size w W) => few10_any pss vp w W hb hvp hpn hpl
  have HRi := Bx.mk fun (W : World) => rright10 (a : Int) (t : Int) W
  rw [hr] at HRi
  have HKn := Bx.mk fun (W : World) (hb : Below w.heap.size w W) => known10_any W (hTb.later hb hg) (Nat.lt_of_lt_of_le hg hb.size)
  have HRi2 := Bx.mk fun (W : World) => rright10 (a : Int) ((t : Int) + (u : Int)) W
  rw [hr2] at HRi2
  obtain ⟨ha1, ha2, ht1, ht2⟩ : (0 ≤ (a : Int) ∧ (a : Int) < 65536 ∧ 0 ≤ (t : Int) ∧ (t : Int) ≤ 1073741824) := of_decide_eq_true hr
  have hu3 : (u : Int) < 300 := by omega
  have hu0 : (0 : Int) ≤ (u : Int) := by omega
  obtain ⟨tbl, htb⟩ : ∃ tbl : List Value, u32s (kTab ++ hTab) = tbl.toArray := ⟨(u32s (kTab ++ hTab)).toList, rfl⟩
  have HMa := Bx.mk fun (W : World) => make_any W
  rw [htb] at HMa
  have HBk := Bx.mk fun (W : World) (p : Nat) (vo : Value) (hb : Below w.heap.size w W) (h : Bk W p p 0 0 (keyQ bs)) (hq : ∀ W1, W.grownBy W1 (some p) → PartsR W1 vo (cut3Q pss)) => bake_ok (keyQ bs) a t p 0 0 (cut3Q pss) vo W h hq hr (by omega) (by have := (keyQ_le bs).1; omega) (by have := cut3Q_len pss; omega) (fun q hq => by have := cut3Q_each pss q hq; omega) (hTb.later hb hg) (Nat.lt_of_lt_of_le hg hb.size)
  have HCo := Bx.mk fun (W : World) (vk vo : Value) (h1 : Bytes W vk (keyQ bs)) (h3 : PartsR W vo (cut3Q pss)) => rcook_any tbl htb (keyQ bs) (t / 64) a (cut3Q pss) vk vo W h1 h3 (by have := (keyQ_le bs).1; omega) (by have := cut3Q_len pss; omega) (fun q hq => by have := cut3Q_each pss q hq; omega) (by omega) (by omega)
  have HSa := Bx.mk fun (W : World) (v1 v2 : Value) (h1 : Bytes W v1 (cookK (keyQ bs) (t / 64) a (cut3Q pss))) (h2 : Bytes W v2 (cookK (keyQ bs) (t / 64) a (cut3Q pss))) => same_any _ _ v1 v2 W h1 h2 (by rw [cookK_length]; omega) (by rw [cookK_length]; omega)
  have HEp := Bx.mk fun (W : World) => epoch_nat t W (by omega)
  have HEn := Bx.mk fun (W : World) => ends_nat t W (by omega)
  have HC1 := Bx.mk fun (W : World) (p n : Nat) (vc' vo : Value) (hb : Below w.heap.size w W) (h : Bk W p p n 0 (keyQ bs)) (hv' : Bytes W vc' (cookK (keyQ bs) (t / 64) a (cut3Q pss))) (hq : PartsR W vo (cut3Q pss)) => check_ok p h.parts.choose t a (keyQ bs) _ (cut3Q pss) vc' vo W hv' (cookK_length _ _ _ _) h.parts.choose_spec.2.2.1 h.parts.choose_spec.2.2.2.2 hq hr (by have := (keyQ_le bs).1; omega) (by have := cut3Q_len pss; omega) (fun q hq => by have := cut3Q_each pss q hq; omega) (hTb.later hb hg) (Nat.lt_of_lt_of_le hg hb.size) (fre_self (keyQ bs) t a (cut3Q pss))
  have hr3 : rightQ (a : Int) ((t + u : Nat) : Int) = true := by rw [Int.natCast_add]; exact hr2
  have HC2 := Bx.mk fun (W : World) (p n : Nat) (vc' vo : Value) (hb : Below w.heap.size w W) (h : Bk W p p n 0 (keyQ bs)) (hv' : Bytes W vc' (cookK (keyQ bs) (t / 64) a (cut3Q pss))) (hq : PartsR W vo (cut3Q pss)) => check_ok p h.parts.choose (t + u) a (keyQ bs) _ (cut3Q pss) vc' vo W hv' (cookK_length _ _ _ _) h.parts.choose_spec.2.2.1 h.parts.choose_spec.2.2.2.2 hq hr3 (by have := (keyQ_le bs).1; omega) (by have := cut3Q_len pss; omega) (fun q hq => by have := cut3Q_each pss q hq; omega) (hTb.later hb hg) (Nat.lt_of_lt_of_le hg hb.size) hf
  rw [Int.natCast_add] at HC2
  have HFr := Bx.mk fun (W : World) (vk vc' vo : Value) (h1 : Bytes W vk (keyQ bs)) (h2 : Bytes W vc' (cookK (keyQ bs) (t / 64) a (cut3Q pss))) (h3 : PartsR W vo (cut3Q pss)) => rfresh_any tbl htb (keyQ bs) _ (t + u) a (cut3Q pss) vk vc' vo W h1 h2 h3 (by have := (keyQ_le bs).1; omega) (by rw [cookK_length]; omega) (by have := cut3Q_len pss; omega) (fun q hq => by have := cut3Q_each pss q hq; omega) (by omega) (by omega)
  rw [hf, Int.natCast_add] at HFr
  have HL := cookK_length (keyQ bs) (t / 64) a (cut3Q pss)
  generalize cookK (keyQ bs) (t / 64) a (cut3Q pss) = ck at *
  have HI : Bx ((Tryd.prog.info? 28).map (·.size) = some (u8s ck).size ∧ (u8s ck).size = z16.size ∧ ck.length = 16) := Bx.mk (by
    have h16 : (u8s ck).size = 16 := by rw [u8s_size, HL]
    refine ⟨by rw [h16]; kernel_rfl, by rw [h16, ← hz16]; rfl, HL⟩)
  obtain ⟨e, he64⟩ : ∃ e, t / 64 = e := ⟨_, rfl⟩
  have het : (t : Int) / 64 = (e : Int) := by omega
  have he1 : (e : Int) ≤ 16777300 := by omega
  have he0 : (0 : Int) ≤ (e : Int) := by omega
  have HEnd : Bx ((((e + 2) * 64 : Nat) : Int) = 64 * ((e : Int) + 2)) := Bx.mk (by omega)
  have hw1 : IntKind.i64.wrap (e : Int) = (e : Int) := IntWalk.i64_in _ (by omega)
  have hw2 : IntKind.i64.wrap ((e : Int) + 2) = (e : Int) + 2 := IntWalk.i64_in _ (by omega)
  have hw3 : IntKind.i64.wrap (64 * ((e : Int) + 2)) = 64 * ((e : Int) + 2) := IntWalk.i64_in _ (by omega)
  have HW4 := Bx.mk (later_is t u l hu (by omega))
  rw [he64] at HCo HEp HEn
  rw [HEnd.out] at HEn
  have hend : decide ((t : Int) + (u : Int) < 64 * ((e : Int) + 2)) = false := decide_eq_false (by omega)
  clear he
  clear hv hvp hpn hpl hTb hg hr hz16 HL htb he64 hr2 hr3 hf
  go_enter Tryd.func3, Tryd.ntmps3
  go_wp2_with fail
  refine HBa.out.mono ?_
  rintro e w1 ⟨p, vk, rfl, h1, h2, h3, h4, h5⟩
  have H1 := Bx.mk (And.intro h1 (And.intro h2 (And.intro h3 (And.intro (h4 p (.inr (Nat.le_refl _))) h5))))
  clear h1 h2 h3 h4 h5 HBa
  go_wp2_with fail
  refine (HFe.out w1 H1.out.2.2.1).mono ?_
  rintro e w2 ⟨vo, xs, rfl, h1, h2, h3⟩
  have H2 : Bx (CS w p (keyQ bs) vk vo xs 0 0 w2) := Bx.mk (CS.make H1.out.2.1 H1.out.2.2.1 H1.out.2.2.2.1 H1.out.1 H1.out.2.2.2.2 h2 h3)
  have HVl := Bx.mk h1
  clear h1 h2 h3 HFe H1
  go_wp2_with fail
  refine (HBk.out w2 p _ H2.out.below H2.out.bk (H2.out.parts HVl.out)).mono ?_
  rintro e3 w3 ⟨rfl, hk, hgr⟩
  have H3 := Bx.mk (H2.out.step hk hgr)
  clear hk hgr H2 HBk
  go_upto_region 6 with (refine wpList_store_var rfl 28 _ _ rfl w3 _ _ rfl (by rfl) (u8s ck) (by rfl) HI.out.2.1 HI.out.1 (one_u8s _) ?_; intro w4 hb hr hl)
  obtain ⟨D, hD⟩ : ∃ D, w3.heap.size = D := ⟨_, rfl⟩
  have H4 : Bx (CT w p (keyQ bs) vk vo xs D ck 1 0 w4) := Bx.mk ⟨H3.out.later hb, (row_bytes (hD ▸ hr) HI.out.2.2).bn (by have := H3.out.bk.lt; omega)⟩
  rw [hD]
  clear hb hr hl H3 hD
  go_wp2_with fail
  refine (HRi.out w4).mono ?_
  rintro e5 w5 ⟨rfl, rfl⟩
  go_upto_region 8 with fail
  have B0 := Bx.mk (H4.out.later (Below.refl _ _).drew)
  clear H4
  refine wp_region_noPanic ?_
  refine wp_region_held_drew (S := fun _ => True) (by kernel_rfl) (trivial) (fun hHeld => ?_)
  generalize w4.drew = W0 at *
  refine takeL 0 (v := ?_) rfl (by kernel_rfl) (by kernel_rfl) (by kernel_rfl) (fun _ _ _ h => h) (Or.inl ⟨by rfl, ?_⟩) hHeld ?_
  rotate_left 1
  · (intro w hSw; go_simp; try with_reducible rfl)
  try simp only [Act.put, List.setIfInBounds_toArray, List.set_cons_zero, List.set_cons_succ]
  refine takeL 1 (v := ?_) rfl (by kernel_rfl) (by kernel_rfl) (by kernel_rfl) (fun _ _ _ h => h) (Or.inl ⟨by rfl, ?_⟩) hHeld ?_
  rotate_left 1
  · (intro w hSw; go_simp; try with_reducible rfl)
  try simp only [Act.put, List.setIfInBounds_toArray, List.set_cons_zero, List.set_cons_succ]
  refine takeL 2 (v := ?_) rfl (by kernel_rfl) (by kernel_rfl) (by kernel_rfl) (fun _ _ _ h => h) (Or.inl ⟨by rfl, ?_⟩) hHeld ?_
  rotate_left 1
  · (intro w hSw; go_simp; try with_reducible rfl)
  try simp only [Act.put, List.setIfInBounds_toArray, List.set_cons_zero, List.set_cons_succ]
  refine takeL 3 (v := ?_) rfl (by kernel_rfl) (by kernel_rfl) (by kernel_rfl) (fun _ _ _ h => h) (Or.inl ⟨by rfl, ?_⟩) hHeld ?_
  rotate_left 1
  · (intro w hSw; go_simp; try with_reducible rfl)
  try simp only [Act.put, List.setIfInBounds_toArray, List.set_cons_zero, List.set_cons_succ]
  refine takeL 5 (v := ?_) rfl (by kernel_rfl) (by kernel_rfl) (by kernel_rfl) (fun _ _ _ h => h) (Or.inl ⟨by rfl, ?_⟩) hHeld ?_
  rotate_left 1
  · (intro w hSw; go_simp; try with_reducible rfl)
  try simp only [Act.put, List.setIfInBounds_toArray, List.set_cons_zero, List.set_cons_succ]
  refine takeL 6 (v := ?_) rfl (by kernel_rfl) (by kernel_rfl) (by kernel_rfl) (fun _ _ _ h => h) (Or.inl ⟨by rfl, ?_⟩) hHeld ?_
  rotate_left 1
  · (intro w hSw; go_simp; try with_reducible rfl)
  try simp only [Act.put, List.setIfInBounds_toArray, List.set_cons_zero, List.set_cons_succ]
  refine takeL 7 (v := ?_) rfl (by kernel_rfl) (by kernel_rfl) (by kernel_rfl) (fun _ _ _ h => h) (Or.inl ⟨by rfl, ?_⟩) hHeld ?_
  rotate_left 1
  · (intro w hSw; go_simp; try with_reducible rfl)
  try simp only [Act.put, List.setIfInBounds_toArray, List.set_cons_zero, List.set_cons_succ]
  refine takeL 8 (v := ?_) rfl (by kernel_rfl) (by kernel_rfl) (by kernel_rfl) (fun _ _ _ h => h) (Or.inl ⟨by rfl, ?_⟩) hHeld ?_
  rotate_left 1
  · (intro w hSw; go_simp; try with_reducible rfl)
  try simp only [Act.put, List.setIfInBounds_toArray, List.set_cons_zero, List.set_cons_succ]
  refine takeL 9 (v := ?_) rfl (by kernel_rfl) (by kernel_rfl) (by kernel_rfl) (fun _ _ _ h => h) (Or.inl ⟨by rfl, ?_⟩) hHeld ?_
  rotate_left 1
  · (intro w hSw; go_simp; try with_reducible rfl)
  try simp only [Act.put, List.setIfInBounds_toArray, List.set_cons_zero, List.set_cons_succ]
  refine stepL 4 (by kernel_rfl) rfl (fun K hK => ?_)
  go_simp
  refine (HMa.out W0).mono ?_
  rintro e6 W1 ⟨rfl, hb⟩
  show K _ _
  have B1 := Bx.mk (B0.out.later hb)
  clear hb
  clear B0
  refine hK.out _ _ trivial (fun hHeld => ?_)
  clear hK K
  try simp only [Act.put, List.setIfInBounds_toArray, List.set_cons_zero, List.set_cons_succ]
  refine stepL 10 (by kernel_rfl) rfl (fun K hK => ?_)
  go_simp
  refine (HCo.out W1 _ _ B1.out.1.key.1 (B1.out.1.parts HVl.out W1 (kb_refl _ _))).mono ?_
  rintro e6 W2 ⟨vcc, rfl, hvcc, hb⟩
  show K _ _
  have B2 := Bx.mk (And.intro (B1.out.later hb) hvcc)
  obtain ⟨ac, cc, hvx, -⟩ := hvcc
  rw [HI.out.2.2] at hvx
  subst hvx
  clear hb
  clear B1
  refine hK.out _ _ trivial (fun hHeld => ?_)
  clear hK K
  try simp only [Act.put, List.setIfInBounds_toArray, List.set_cons_zero, List.set_cons_succ]
  refine stepL 11 (by kernel_rfl) rfl (fun K hK => ?_)
  go_simp
  refine (HSa.out W2 _ _ B2.out.1.2.1 B2.out.2).mono ?_
  rintro e6 W3 ⟨rfl, nd, hnd⟩
  show K _ _
  have B3 := Bx.mk (B2.out.1.later (W1 := W3) (by rw [hnd]; exact below_drewN (Below.refl _ _) _))
  clear hnd
  clear B2
  refine hK.out _ _ trivial (fun hHeld => ?_)
  clear hK K
  try simp only [Act.put, List.setIfInBounds_toArray, List.set_cons_zero, List.set_cons_succ]
  refine takeL 12 (v := ?_) rfl (by kernel_rfl) (by kernel_rfl) (by kernel_rfl) (fun _ _ _ h => h) (Or.inl ⟨by rfl, ?_⟩) hHeld ?_
  rotate_left 1
  · (intro w hSw; go_simp; try with_reducible rfl)
  try simp only [Act.put, List.setIfInBounds_toArray, List.set_cons_zero, List.set_cons_succ]
  refine takeL 13 (v := ?_) rfl (by kernel_rfl) (by kernel_rfl) (by kernel_rfl) (fun _ _ _ h => h) (Or.inl ⟨by rfl, ?_⟩) hHeld ?_
  rotate_left 1
  · (intro w hSw; go_simp; try with_reducible rfl)
  try simp only [Act.put, List.setIfInBounds_toArray, List.set_cons_zero, List.set_cons_succ]
  refine takeL 14 (v := ?_) rfl (by kernel_rfl) (by kernel_rfl) (by kernel_rfl) (fun _ _ _ h => h) (Or.inl ⟨by rfl, ?_⟩) hHeld ?_
  rotate_left 1
  · (intro w hSw; go_simp; try with_reducible rfl)
  try simp only [Act.put, List.setIfInBounds_toArray, List.set_cons_zero, List.set_cons_succ]
  refine takeL 15 (v := ?_) rfl (by kernel_rfl) (by kernel_rfl) (by kernel_rfl) (fun _ _ _ h => h) (Or.inl ⟨by rfl, ?_⟩) hHeld ?_
  rotate_left 1
  · (intro w hSw; go_simp; try with_reducible rfl)
  try simp only [Act.put, List.setIfInBounds_toArray, List.set_cons_zero, List.set_cons_succ]
  refine takeL 17 (v := ?_) rfl (by kernel_rfl) (by kernel_rfl) (by kernel_rfl) (fun _ _ _ h => h) (Or.inl ⟨by rfl, ?_⟩) hHeld ?_
  rotate_left 1
  · (intro w hSw; go_simp; try with_reducible rfl)
  try simp only [Act.put, List.setIfInBounds_toArray, List.set_cons_zero, List.set_cons_succ]
  refine takeL 18 (v := ?_) rfl (by kernel_rfl) (by kernel_rfl) (by kernel_rfl) (fun _ _ _ h => h) (Or.inl ⟨by rfl, ?_⟩) hHeld ?_
  rotate_left 1
  · (intro w hSw; go_simp; try with_reducible rfl)
  try simp only [Act.put, List.setIfInBounds_toArray, List.set_cons_zero, List.set_cons_succ]
  refine stepL 16 (by kernel_rfl) rfl (fun K hK => ?_)
  go_simp
  refine (HEp.out W3).mono ?_
  rintro e6 W4 ⟨rfl, hw6⟩
  show K _ _
  have B4 := Bx.mk (B3.out.later (W1 := W4) (by rw [← hw6]; exact Below.refl _ _))
  clear hw6
  clear B3
  refine hK.out _ _ trivial (fun hHeld => ?_)
  clear hK K
  try simp only [Act.put, List.setIfInBounds_toArray, List.set_cons_zero, List.set_cons_succ]
  refine takeL 19 (v := ?_) rfl (by kernel_rfl) (by kernel_rfl) (by kernel_rfl) (fun _ _ _ h => h) (Or.inl ⟨by rfl, ?_⟩) hHeld ?_
  rotate_left 1
  · (intro w hSw; go_simp; try with_reducible rfl)
  try simp only [Act.put, List.setIfInBounds_toArray, List.set_cons_zero, List.set_cons_succ]
  refine takeL 20 (v := ?_) rfl (by kernel_rfl) (by kernel_rfl) (by kernel_rfl) (fun _ _ _ h => h) (Or.inl ⟨by rfl, ?_⟩) hHeld ?_
  rotate_left 1
  · (intro w hSw; go_simp; try with_reducible rfl)
  try simp only [Act.put, List.setIfInBounds_toArray, List.set_cons_zero, List.set_cons_succ]
  refine takeL 21 (v := ?_) rfl (by kernel_rfl) (by kernel_rfl) (by kernel_rfl) (fun _ _ _ h => h) (Or.inl ⟨by rfl, ?_⟩) hHeld ?_
  rotate_left 1
  · (intro w hSw; go_simp; try with_reducible rfl)
  try simp only [Act.put, List.setIfInBounds_toArray, List.set_cons_zero, List.set_cons_succ]
  refine takeL 22 (v := ?_) rfl (by kernel_rfl) (by kernel_rfl) (by kernel_rfl) (fun _ _ _ h => h) (Or.inl ⟨by rfl, ?_⟩) hHeld ?_
  rotate_left 1
  · (intro w hSw; go_simp; try with_reducible rfl)
  try simp only [Act.put, List.setIfInBounds_toArray, List.set_cons_zero, List.set_cons_succ]
  refine takeL 24 (v := ?_) rfl (by kernel_rfl) (by kernel_rfl) (by kernel_rfl) (fun _ _ _ h => h) (Or.inl ⟨by rfl, ?_⟩) hHeld ?_
  rotate_left 1
  · (intro w hSw; go_simp; try with_reducible rfl)
  try simp only [Act.put, List.setIfInBounds_toArray, List.set_cons_zero, List.set_cons_succ]
  refine takeL 25 (v := ?_) rfl (by kernel_rfl) (by kernel_rfl) (by kernel_rfl) (fun _ _ _ h => h) (Or.inl ⟨by rfl, ?_⟩) hHeld ?_
  rotate_left 1
  · (intro w hSw; go_simp; try with_reducible rfl)
  try simp only [Act.put, List.setIfInBounds_toArray, List.set_cons_zero, List.set_cons_succ]
  refine takeL 26 (v := ?_) rfl (by kernel_rfl) (by kernel_rfl) (by kernel_rfl) (fun _ _ _ h => h) (Or.inl ⟨by rfl, ?_⟩) hHeld ?_
  rotate_left 1
  · (intro w hSw; go_simp; try with_reducible rfl)
  try simp only [Act.put, List.setIfInBounds_toArray, List.set_cons_zero, List.set_cons_succ]
  refine takeL 27 (v := ?_) rfl (by kernel_rfl) (by kernel_rfl) (by kernel_rfl) (fun _ _ _ h => h) (Or.inl ⟨by rfl, ?_⟩) hHeld ?_
  rotate_left 1
  · (intro w hSw; go_simp; try with_reducible rfl)
  try simp only [Act.put, List.setIfInBounds_toArray, List.set_cons_zero, List.set_cons_succ]
  refine stepL 23 (by kernel_rfl) rfl (fun K hK => ?_)
  go_simp
  refine (HEn.out W4).mono ?_
  rintro e6 W5 ⟨rfl, hw6⟩
  show K _ _
  have B5 := Bx.mk (B4.out.later (W1 := W5) (by rw [← hw6]; exact Below.refl _ _))
  clear hw6
  clear B4
  refine hK.out _ _ trivial (fun hHeld => ?_)
  clear hK K
  try simp only [Act.put, List.setIfInBounds_toArray, List.set_cons_zero, List.set_cons_succ]
  refine takeL 28 (v := ?_) rfl (by kernel_rfl) (by kernel_rfl) (by kernel_rfl) (fun _ _ _ h => h) (Or.inl ⟨by rfl, ?_⟩) hHeld ?_
  rotate_left 1
  · (intro w hSw; go_simp; try with_reducible rfl)
  try simp only [Act.put, List.setIfInBounds_toArray, List.set_cons_zero, List.set_cons_succ]
  refine takeL 29 (v := ?_) rfl (by kernel_rfl) (by kernel_rfl) (by kernel_rfl) (fun _ _ _ h => h) (Or.inl ⟨by rfl, ?_⟩) hHeld ?_
  rotate_left 1
  · (intro w hSw; go_simp; try with_reducible rfl)
  try simp only [Act.put, List.setIfInBounds_toArray, List.set_cons_zero, List.set_cons_succ]
  refine takeL 30 (v := ?_) rfl (by kernel_rfl) (by kernel_rfl) (by kernel_rfl) (fun _ _ _ h => h) (Or.inl ⟨by rfl, ?_⟩) hHeld ?_
  rotate_left 1
  · (intro w hSw; go_simp; try with_reducible rfl)
  try simp only [Act.put, List.setIfInBounds_toArray, List.set_cons_zero, List.set_cons_succ]
  refine takeL 31 (v := ?_) rfl (by kernel_rfl) (by kernel_rfl) (by kernel_rfl) (fun _ _ _ h => h) (Or.inl ⟨by rfl, ?_⟩) hHeld ?_
  rotate_left 1
  · (intro w hSw; go_simp; try with_reducible rfl)
  try simp only [Act.put, List.setIfInBounds_toArray, List.set_cons_zero, List.set_cons_succ]
  refine takeL 32 (v := ?_) rfl (by kernel_rfl) (by kernel_rfl) (by kernel_rfl) (fun _ _ _ h => h) (Or.inl ⟨by rfl, ?_⟩) hHeld ?_
  rotate_left 1
  · (intro w hSw; go_simp; try with_reducible rfl)
  try simp only [Act.put, List.setIfInBounds_toArray, List.set_cons_zero, List.set_cons_succ]
  refine takeL 33 (v := ?_) rfl (by kernel_rfl) (by kernel_rfl) (by kernel_rfl) (fun _ _ _ h => h) (Or.inl ⟨by rfl, ?_⟩) hHeld ?_
  rotate_left 1
  · (intro w hSw; go_simp; try with_reducible rfl)
  try simp only [Act.put, List.setIfInBounds_toArray, List.set_cons_zero, List.set_cons_succ]
  refine takeL 34 (v := ?_) rfl (by kernel_rfl) (by kernel_rfl) (by kernel_rfl) (fun _ _ _ h => h) (Or.inl ⟨by rfl, ?_⟩) hHeld ?_
  rotate_left 1
  · (intro w hSw; go_simp; try with_reducible rfl)
  try simp only [Act.put, List.setIfInBounds_toArray, List.set_cons_zero, List.set_cons_succ]
  refine takeL 35 (v := ?_) rfl (by kernel_rfl) (by kernel_rfl) (by kernel_rfl) (fun _ _ _ h => h) (Or.inl ⟨by rfl, ?_⟩) hHeld ?_
  rotate_left 1
  · (intro w hSw; go_simp; try with_reducible rfl)
  try simp only [Act.put, List.setIfInBounds_toArray, List.set_cons_zero, List.set_cons_succ]
  refine stepL 36 (by kernel_rfl) rfl (fun K hK => ?_)
  go_simp
  refine (HC1.out W5 p 1 _ _ B5.out.1.below B5.out.1.bk B5.out.2.1 (B5.out.1.parts HVl.out W5 (kb_refl _ _))).mono ?_
  rintro e6 W6 ⟨rfl, hb⟩
  show K _ _
  have B6 := Bx.mk (B5.out.later hb)
  clear hb
  clear B5
  refine hK.out _ _ trivial (fun hHeld => ?_)
  clear hK K
  try simp only [Act.put, List.setIfInBounds_toArray, List.set_cons_zero, List.set_cons_succ]
  refine takeL 37 (v := ?_) rfl (by kernel_rfl) (by kernel_rfl) (by kernel_rfl) (fun _ _ _ h => h) (Or.inl ⟨by rfl, ?_⟩) hHeld ?_
  rotate_left 1
  · (intro w hSw; go_simp; try with_reducible rfl)
  try simp only [Act.put, List.setIfInBounds_toArray, List.set_cons_zero, List.set_cons_succ]
  refine takeL 38 (v := ?_) rfl (by kernel_rfl) (by kernel_rfl) (by kernel_rfl) (fun _ _ _ h => h) (Or.inl ⟨by rfl, ?_⟩) hHeld ?_
  rotate_left 1
  · (intro w hSw; go_simp; try with_reducible rfl)
  try simp only [Act.put, List.setIfInBounds_toArray, List.set_cons_zero, List.set_cons_succ]
  refine wpAnyH_done (by kernel_rfl) ?_ _
  refine NoPanic.normal ?_
  clear hHeld
  go_wp2_with fail
  simp only [HW4.out]
  skip -- E8
  refine (HRi2.out W6).mono ?_
  rintro e7 W7 ⟨rfl, rfl⟩
  go_upto_region 13 with fail
  have C0 := Bx.mk (B6.out.later (Below.refl _ _).drew)
  clear B6
  refine wp_region_noPanic ?_
  refine wp_region_held_drew (S := fun _ => True) (by kernel_rfl) (trivial) (fun hHeld => ?_)
  generalize W6.drew = Z0 at *
  refine stepL 0 (by kernel_rfl) rfl (fun K hK => ?_)
  go_simp
  refine (HKn.out Z0 C0.out.1.below).mono ?_
  rintro e6 Z1 ⟨rfl, hb⟩
  show K _ _
  have C1 := Bx.mk (C0.out.later hb)
  clear hb
  clear C0
  refine hK.out _ _ trivial (fun hHeld => ?_)
  clear hK K
  try simp only [Act.put, List.setIfInBounds_toArray, List.set_cons_zero, List.set_cons_succ]
  refine takeL 1 (v := ?_) rfl (by kernel_rfl) (by kernel_rfl) (by kernel_rfl) (fun _ _ _ h => h) (Or.inl ⟨by rfl, ?_⟩) hHeld ?_
  rotate_left 1
  · (intro w hSw; go_simp; try with_reducible rfl)
  try simp only [Act.put, List.setIfInBounds_toArray, List.set_cons_zero, List.set_cons_succ]
  refine takeL 2 (v := ?_) rfl (by kernel_rfl) (by kernel_rfl) (by kernel_rfl) (fun _ _ _ h => h) (Or.inl ⟨by rfl, ?_⟩) hHeld ?_
  rotate_left 1
  · (intro w hSw; go_simp; try with_reducible rfl)
  try simp only [Act.put, List.setIfInBounds_toArray, List.set_cons_zero, List.set_cons_succ]
  refine takeL 3 (v := ?_) rfl (by kernel_rfl) (by kernel_rfl) (by kernel_rfl) (fun _ _ _ h => h) (Or.inl ⟨by rfl, ?_⟩) hHeld ?_
  rotate_left 1
  · (intro w hSw; go_simp; try with_reducible rfl)
  try simp only [Act.put, List.setIfInBounds_toArray, List.set_cons_zero, List.set_cons_succ]
  refine takeL 4 (v := ?_) rfl (by kernel_rfl) (by kernel_rfl) (by kernel_rfl) (fun _ _ _ h => h) (Or.inl ⟨by rfl, ?_⟩) hHeld ?_
  rotate_left 1
  · (intro w hSw; go_simp; try with_reducible rfl)
  try simp only [Act.put, List.setIfInBounds_toArray, List.set_cons_zero, List.set_cons_succ]
  refine takeL 5 (v := ?_) rfl (by kernel_rfl) (by kernel_rfl) (by kernel_rfl) (fun _ _ _ h => h) (Or.inl ⟨by rfl, ?_⟩) hHeld ?_
  rotate_left 1
  · (intro w hSw; go_simp; try with_reducible rfl)
  try simp only [Act.put, List.setIfInBounds_toArray, List.set_cons_zero, List.set_cons_succ]
  refine takeL 6 (v := ?_) rfl (by kernel_rfl) (by kernel_rfl) (by kernel_rfl) (fun _ _ _ h => h) (Or.inl ⟨by rfl, ?_⟩) hHeld ?_
  rotate_left 1
  · (intro w hSw; go_simp; try with_reducible rfl)
  try simp only [Act.put, List.setIfInBounds_toArray, List.set_cons_zero, List.set_cons_succ]
  refine takeL 9 (v := ?_) rfl (by kernel_rfl) (by kernel_rfl) (by kernel_rfl) (fun _ _ _ h => h) (Or.inl ⟨by rfl, ?_⟩) hHeld ?_
  rotate_left 1
  · (intro w hSw; go_simp; try with_reducible rfl)
  try simp only [Act.put, List.setIfInBounds_toArray, List.set_cons_zero, List.set_cons_succ]
  refine takeL 10 (v := ?_) rfl (by kernel_rfl) (by kernel_rfl) (by kernel_rfl) (fun _ _ _ h => h) (Or.inl ⟨by rfl, ?_⟩) hHeld ?_
  rotate_left 1
  · (intro w hSw; go_simp; try with_reducible rfl)
  try simp only [Act.put, List.setIfInBounds_toArray, List.set_cons_zero, List.set_cons_succ]
  refine stepL 7 (by kernel_rfl) rfl (fun K hK => ?_)
  go_simp
  refine (HC2.out Z1 p 1 _ _ C1.out.1.below C1.out.1.bk C1.out.2.1 (C1.out.1.parts HVl.out Z1 (kb_refl _ _))).mono ?_
  rintro e6 Z2 ⟨rfl, hb⟩
  show K _ _
  have C2 := Bx.mk (C1.out.later hb)
  clear hb
  clear C1
  refine hK.out _ _ trivial (fun hHeld => ?_)
  clear hK K
  try simp only [Act.put, List.setIfInBounds_toArray, List.set_cons_zero, List.set_cons_succ]
  refine takeL 8 (v := ?_) rfl (by kernel_rfl) (by kernel_rfl) (by kernel_rfl) (fun _ _ _ h => h) (Or.inl ⟨by rfl, ?_⟩) hHeld ?_
  rotate_left 1
  · (intro w hSw; go_simp; try with_reducible rfl)
  try simp only [Act.put, List.setIfInBounds_toArray, List.set_cons_zero, List.set_cons_succ]
  refine stepL 11 (by kernel_rfl) rfl (fun K hK => ?_)
  go_simp
  refine (HEn.out Z2).mono ?_
  rintro e6 Z3 ⟨rfl, hw6⟩
  show K _ _
  have C3 := Bx.mk (C2.out.later (W1 := Z3) (by rw [← hw6]; exact Below.refl _ _))
  clear hw6
  clear C2
  refine hK.out _ _ trivial (fun hHeld => ?_)
  clear hK K
  try simp only [Act.put, List.setIfInBounds_toArray, List.set_cons_zero, List.set_cons_succ]
  refine takeL 12 (v := ?_) rfl (by kernel_rfl) (by kernel_rfl) (by kernel_rfl) (fun _ _ _ h => h) (Or.inl ⟨by rfl, ?_⟩) hHeld ?_
  rotate_left 1
  · (intro w hSw; go_simp; try with_reducible rfl)
  try simp only [Act.put, List.setIfInBounds_toArray, List.set_cons_zero, List.set_cons_succ]
  refine takeL 13 (v := ?_) rfl (by kernel_rfl) (by kernel_rfl) (by kernel_rfl) (fun _ _ _ h => h) (Or.inl ⟨by rfl, ?_⟩) hHeld ?_
  rotate_left 1
  · (intro w hSw; go_simp; try with_reducible rfl)
  try simp only [Act.put, List.setIfInBounds_toArray, List.set_cons_zero, List.set_cons_succ]
  refine takeL 15 (v := ?_) rfl (by kernel_rfl) (by kernel_rfl) (by kernel_rfl) (fun _ _ _ h => h) (Or.inl ⟨by rfl, ?_⟩) hHeld ?_
  rotate_left 1
  · (intro w hSw; go_simp; try with_reducible rfl)
  try simp only [Act.put, List.setIfInBounds_toArray, List.set_cons_zero, List.set_cons_succ]
  refine takeL 16 (v := ?_) rfl (by kernel_rfl) (by kernel_rfl) (by kernel_rfl) (fun _ _ _ h => h) (Or.inl ⟨by rfl, ?_⟩) hHeld ?_
  rotate_left 1
  · (intro w hSw; go_simp; try with_reducible rfl)
  try simp only [Act.put, List.setIfInBounds_toArray, List.set_cons_zero, List.set_cons_succ]
  refine takeL 17 (v := ?_) rfl (by kernel_rfl) (by kernel_rfl) (by kernel_rfl) (fun _ _ _ h => h) (Or.inl ⟨by rfl, ?_⟩) hHeld ?_
  rotate_left 1
  · (intro w hSw; go_simp; try with_reducible rfl)
  try simp only [Act.put, List.setIfInBounds_toArray, List.set_cons_zero, List.set_cons_succ]
  refine takeL 18 (v := ?_) rfl (by kernel_rfl) (by kernel_rfl) (by kernel_rfl) (fun _ _ _ h => h) (Or.inl ⟨by rfl, ?_⟩) hHeld ?_
  rotate_left 1
  · (intro w hSw; go_simp; try with_reducible rfl)
  try simp only [Act.put, List.setIfInBounds_toArray, List.set_cons_zero, List.set_cons_succ]
  refine takeL 19 (v := ?_) rfl (by kernel_rfl) (by kernel_rfl) (by kernel_rfl) (fun _ _ _ h => h) (Or.inl ⟨by rfl, ?_⟩) hHeld ?_
  rotate_left 1
  · (intro w hSw; go_simp; try with_reducible rfl)
  try simp only [Act.put, List.setIfInBounds_toArray, List.set_cons_zero, List.set_cons_succ]
  refine stepL 14 (by kernel_rfl) rfl (fun K hK => ?_)
  go_simp
  refine (HMa.out Z3).mono ?_
  rintro e6 Z4 ⟨rfl, hb⟩
  show K _ _
  have C4 := Bx.mk (C3.out.later hb)
  clear hb
  clear C3
  refine hK.out _ _ trivial (fun hHeld => ?_)
  clear hK K
  try simp only [Act.put, List.setIfInBounds_toArray, List.set_cons_zero, List.set_cons_succ]
  refine stepL 20 (by kernel_rfl) rfl (fun K hK => ?_)
  go_simp
  refine (HFr.out Z4 _ _ _ C4.out.1.key.1 C4.out.2.1 (C4.out.1.parts HVl.out Z4 (kb_refl _ _))).mono ?_
  rintro e6 Z5 ⟨rfl, hb⟩
  show K _ _
  have C5 := Bx.mk (C4.out.later hb)
  clear hb
  clear C4
  refine hK.out _ _ trivial (fun hHeld => ?_)
  clear hK K
  try simp only [Act.put, List.setIfInBounds_toArray, List.set_cons_zero, List.set_cons_succ]
  refine takeL 21 (v := ?_) rfl (by kernel_rfl) (by kernel_rfl) (by kernel_rfl) (fun _ _ _ h => h) (Or.inl ⟨by rfl, ?_⟩) hHeld ?_
  rotate_left 1
  · (intro w hSw; go_simp; try with_reducible rfl)
  try simp only [Act.put, List.setIfInBounds_toArray, List.set_cons_zero, List.set_cons_succ]
  refine takeL 22 (v := ?_) rfl (by kernel_rfl) (by kernel_rfl) (by kernel_rfl) (fun _ _ _ h => h) (Or.inl ⟨by rfl, ?_⟩) hHeld ?_
  rotate_left 1
  · (intro w hSw; go_simp; try with_reducible rfl)
  try simp only [Act.put, List.setIfInBounds_toArray, List.set_cons_zero, List.set_cons_succ]
  refine takeL 23 (v := ?_) rfl (by kernel_rfl) (by kernel_rfl) (by kernel_rfl) (fun _ _ _ h => h) (Or.inl ⟨by rfl, ?_⟩) hHeld ?_
  rotate_left 1
  · (intro w hSw; go_simp; try with_reducible rfl)
  try simp only [Act.put, List.setIfInBounds_toArray, List.set_cons_zero, List.set_cons_succ]
  refine takeL 24 (v := ?_) rfl (by kernel_rfl) (by kernel_rfl) (by kernel_rfl) (fun _ _ _ h => h) (Or.inl ⟨by rfl, ?_⟩) hHeld ?_
  rotate_left 1
  · (intro w hSw; go_simp; try with_reducible rfl)
  try simp only [Act.put, List.setIfInBounds_toArray, List.set_cons_zero, List.set_cons_succ]
  refine wpAnyH_done (by kernel_rfl) ?_ _
  refine NoPanic.normal ?_
  clear hHeld
  go_wp2
  go_ret
  exact ⟨rfl, C5.out.1.below⟩
end Go.Proofs.YtncbhnkhbohejaaDoor
namespace Go.Proofs.YtncbhnkhbohejaaDoor
open Go Go.RowKit
set_option maxRecDepth 100000 in
set_option maxHeartbeats 4000000 in
theorem cbak_b4 (bs : List UInt8) (pss : List (List UInt8)) (v vp : Value) (a t : Nat) (l : Int) (w : World) (hv : Bytes w v bs) (hl : bs.length ≤ 9223372036854775807) (hvp : Parts w vp pss) (hpn : pss.length ≤ 9223372036854775807) (hpl : ∀ p ∈ pss, p.length ≤ 9223372036854775807) (hTb : Tab w) (hg : 0 < w.heap.size)
    (hr : rightQ (a : Int) (t : Int) = true) (u : Nat) (hu : l % 18446744073709551616 % 300 = (u : Int)) (hr2 : rightQ (a : Int) ((t : Int) + (u : Int)) = true) (he : (t / 64 + 2) * 64 ≤ (t + u)) (hf : freK (keyQ bs) ((t + u) / 64) a (cut3Q pss) (cookK (keyQ bs) (t / 64) a (cut3Q pss)) = false) :
    Calls Tryd.prog 3 #[v, .int .i64 (a : Int), .int .i64 (t : Int), .int .i64 l, vp] w fun e w' => e = .returned (.bool true) ∧ Below w.heap.size w w' := by
  obtain ⟨z16, hz16⟩ : ∃ z, u8s (List.replicate 16 0) = z := ⟨_, rfl⟩
  have hz16v := (z16_facts hz16).1
  have HZI := Bx.mk (z16_facts hz16).2.2
  have HBa := Bx.mk (baker10_any bs v w hv hl)
  have HFe := Bx.mk fun (W : World) (hb : Below w.heap.size w W) => few10_any pss vp w W hb hvp hpn hpl
  have HRi := Bx.mk fun (W : World) => rright10 (a : Int) (t : Int) W
  rw [hr] at HRi
  have HKn := Bx.mk fun (W : World) (hb : Below w.heap.size w W) => known10_any W (hTb.later hb hg) (Nat.lt_of_lt_of_le hg hb.size)
  have HRi2 := Bx.mk fun (W : World) => rright10 (a : Int) ((t : Int) + (u : Int)) W
  rw [hr2] at HRi2
  obtain ⟨ha1, ha2, ht1, ht2⟩ : (0 ≤ (a : Int) ∧ (a : Int) < 65536 ∧ 0 ≤ (t : Int) ∧ (t : Int) ≤ 1073741824) := of_decide_eq_true hr
  have hu3 : (u : Int) < 300 := by omega
  have hu0 : (0 : Int) ≤ (u : Int) := by omega
  obtain ⟨tbl, htb⟩ : ∃ tbl : List Value, u32s (kTab ++ hTab) = tbl.toArray := ⟨(u32s (kTab ++ hTab)).toList, rfl⟩
  have HMa := Bx.mk fun (W : World) => make_any W
  rw [htb] at HMa
  have HBk := Bx.mk fun (W : World) (p : Nat) (vo : Value) (hb : Below w.heap.size w W) (h : Bk W p p 0 0 (keyQ bs)) (hq : ∀ W1, W.grownBy W1 (some p) → PartsR W1 vo (cut3Q pss)) => bake_ok (keyQ bs) a t p 0 0 (cut3Q pss) vo W h hq hr (by omega) (by have := (keyQ_le bs).1; omega) (by have := cut3Q_len pss; omega) (fun q hq => by have := cut3Q_each pss q hq; omega) (hTb.later hb hg) (Nat.lt_of_lt_of_le hg hb.size)
  have HCo := Bx.mk fun (W : World) (vk vo : Value) (h1 : Bytes W vk (keyQ bs)) (h3 : PartsR W vo (cut3Q pss)) => rcook_any tbl htb (keyQ bs) (t / 64) a (cut3Q pss) vk vo W h1 h3 (by have := (keyQ_le bs).1; omega) (by have := cut3Q_len pss; omega) (fun q hq => by have := cut3Q_each pss q hq; omega) (by omega) (by omega)
  have HSa := Bx.mk fun (W : World) (v1 v2 : Value) (h1 : Bytes W v1 (cookK (keyQ bs) (t / 64) a (cut3Q pss))) (h2 : Bytes W v2 (cookK (keyQ bs) (t / 64) a (cut3Q pss))) => same_any _ _ v1 v2 W h1 h2 (by rw [cookK_length]; omega) (by rw [cookK_length]; omega)
  have HEp := Bx.mk fun (W : World) => epoch_nat t W (by omega)
  have HEn := Bx.mk fun (W : World) => ends_nat t W (by omega)
  have HC1 := Bx.mk fun (W : World) (p n : Nat) (vc' vo : Value) (hb : Below w.heap.size w W) (h : Bk W p p n 0 (keyQ bs)) (hv' : Bytes W vc' (cookK (keyQ bs) (t / 64) a (cut3Q pss))) (hq : PartsR W vo (cut3Q pss)) => check_ok p h.parts.choose t a (keyQ bs) _ (cut3Q pss) vc' vo W hv' (cookK_length _ _ _ _) h.parts.choose_spec.2.2.1 h.parts.choose_spec.2.2.2.2 hq hr (by have := (keyQ_le bs).1; omega) (by have := cut3Q_len pss; omega) (fun q hq => by have := cut3Q_each pss q hq; omega) (hTb.later hb hg) (Nat.lt_of_lt_of_le hg hb.size) (fre_self (keyQ bs) t a (cut3Q pss))
  have hr3 : rightQ (a : Int) ((t + u : Nat) : Int) = true := by rw [Int.natCast_add]; exact hr2
  have HC2 := Bx.mk fun (W : World) (p n : Nat) (vc' vo : Value) (hb : Below w.heap.size w W) (h : Bk W p p n 0 (keyQ bs)) (hv' : Bytes W vc' (cookK (keyQ bs) (t / 64) a (cut3Q pss))) (hq : PartsR W vo (cut3Q pss)) => check_old p (t + u) a n 0 (keyQ bs) _ (cut3Q pss) vc' vo W hv' (cookK_length _ _ _ _) h hq hr3 (by omega) (by have := (keyQ_le bs).1; omega) (by have := cut3Q_len pss; omega) (fun q hq => by have := cut3Q_each pss q hq; omega) (hTb.later hb hg) (Nat.lt_of_lt_of_le hg hb.size) hf
  rw [Int.natCast_add] at HC2
  have HFr := Bx.mk fun (W : World) (vk vc' vo : Value) (h1 : Bytes W vk (keyQ bs)) (h2 : Bytes W vc' (cookK (keyQ bs) (t / 64) a (cut3Q pss))) (h3 : PartsR W vo (cut3Q pss)) => rfresh_any tbl htb (keyQ bs) _ (t + u) a (cut3Q pss) vk vc' vo W h1 h2 h3 (by have := (keyQ_le bs).1; omega) (by rw [cookK_length]; omega) (by have := cut3Q_len pss; omega) (fun q hq => by have := cut3Q_each pss q hq; omega) (by omega) (by omega)
  rw [hf, Int.natCast_add] at HFr
  have HL := cookK_length (keyQ bs) (t / 64) a (cut3Q pss)
  generalize cookK (keyQ bs) (t / 64) a (cut3Q pss) = ck at *
  have HI : Bx ((Tryd.prog.info? 28).map (·.size) = some (u8s ck).size ∧ (u8s ck).size = z16.size ∧ ck.length = 16) := Bx.mk (by
    have h16 : (u8s ck).size = 16 := by rw [u8s_size, HL]
    refine ⟨by rw [h16]; kernel_rfl, by rw [h16, ← hz16]; rfl, HL⟩)
  obtain ⟨e, he64⟩ : ∃ e, t / 64 = e := ⟨_, rfl⟩
  have het : (t : Int) / 64 = (e : Int) := by omega
  have he1 : (e : Int) ≤ 16777300 := by omega
  have he0 : (0 : Int) ≤ (e : Int) := by omega
  have HEnd : Bx ((((e + 2) * 64 : Nat) : Int) = 64 * ((e : Int) + 2)) := Bx.mk (by omega)
  have hw1 : IntKind.i64.wrap (e : Int) = (e : Int) := IntWalk.i64_in _ (by omega)
  have hw2 : IntKind.i64.wrap ((e : Int) + 2) = (e : Int) + 2 := IntWalk.i64_in _ (by omega)
  have hw3 : IntKind.i64.wrap (64 * ((e : Int) + 2)) = 64 * ((e : Int) + 2) := IntWalk.i64_in _ (by omega)
  have HW4 := Bx.mk (later_is t u l hu (by omega))
  rw [he64] at HCo HEp HEn
  rw [HEnd.out] at HEn
  have hend : decide ((t : Int) + (u : Int) < 64 * ((e : Int) + 2)) = false := decide_eq_false (by omega)
  clear he
  clear hv hvp hpn hpl hTb hg hr hz16 HL htb he64 hr2 hr3 hf
  go_enter Tryd.func3, Tryd.ntmps3
  go_wp2_with fail
  refine HBa.out.mono ?_
  rintro e w1 ⟨p, vk, rfl, h1, h2, h3, h4, h5⟩
  have H1 := Bx.mk (And.intro h1 (And.intro h2 (And.intro h3 (And.intro (h4 p (.inr (Nat.le_refl _))) h5))))
  clear h1 h2 h3 h4 h5 HBa
  go_wp2_with fail
  refine (HFe.out w1 H1.out.2.2.1).mono ?_
  rintro e w2 ⟨vo, xs, rfl, h1, h2, h3⟩
  have H2 : Bx (CS w p (keyQ bs) vk vo xs 0 0 w2) := Bx.mk (CS.make H1.out.2.1 H1.out.2.2.1 H1.out.2.2.2.1 H1.out.1 H1.out.2.2.2.2 h2 h3)
  have HVl := Bx.mk h1
  clear h1 h2 h3 HFe H1
  go_wp2_with fail
  refine (HBk.out w2 p _ H2.out.below H2.out.bk (H2.out.parts HVl.out)).mono ?_
  rintro e3 w3 ⟨rfl, hk, hgr⟩
  have H3 := Bx.mk (H2.out.step hk hgr)
  clear hk hgr H2 HBk
  go_upto_region 6 with (refine wpList_store_var rfl 28 _ _ rfl w3 _ _ rfl (by rfl) (u8s ck) (by rfl) HI.out.2.1 HI.out.1 (one_u8s _) ?_; intro w4 hb hr hl)
  obtain ⟨D, hD⟩ : ∃ D, w3.heap.size = D := ⟨_, rfl⟩
  have H4 : Bx (CT w p (keyQ bs) vk vo xs D ck 1 0 w4) := Bx.mk ⟨H3.out.later hb, (row_bytes (hD ▸ hr) HI.out.2.2).bn (by have := H3.out.bk.lt; omega)⟩
  rw [hD]
  clear hb hr hl H3 hD
  go_wp2_with fail
  refine (HRi.out w4).mono ?_
  rintro e5 w5 ⟨rfl, rfl⟩
  go_upto_region 8 with fail
  have B0 := Bx.mk (H4.out.later (Below.refl _ _).drew)
  clear H4
  refine wp_region_noPanic ?_
  refine wp_region_held_drew (S := fun _ => True) (by kernel_rfl) (trivial) (fun hHeld => ?_)
  generalize w4.drew = W0 at *
  refine takeL 0 (v := ?_) rfl (by kernel_rfl) (by kernel_rfl) (by kernel_rfl) (fun _ _ _ h => h) (Or.inl ⟨by rfl, ?_⟩) hHeld ?_
  rotate_left 1
  · (intro w hSw; go_simp; try with_reducible rfl)
  try simp only [Act.put, List.setIfInBounds_toArray, List.set_cons_zero, List.set_cons_succ]
  refine takeL 1 (v := ?_) rfl (by kernel_rfl) (by kernel_rfl) (by kernel_rfl) (fun _ _ _ h => h) (Or.inl ⟨by rfl, ?_⟩) hHeld ?_
  rotate_left 1
  · (intro w hSw; go_simp; try with_reducible rfl)
  try simp only [Act.put, List.setIfInBounds_toArray, List.set_cons_zero, List.set_cons_succ]
  refine takeL 2 (v := ?_) rfl (by kernel_rfl) (by kernel_rfl) (by kernel_rfl) (fun _ _ _ h => h) (Or.inl ⟨by rfl, ?_⟩) hHeld ?_
  rotate_left 1
  · (intro w hSw; go_simp; try with_reducible rfl)
  try simp only [Act.put, List.setIfInBounds_toArray, List.set_cons_zero, List.set_cons_succ]
  refine takeL 3 (v := ?_) rfl (by kernel_rfl) (by kernel_rfl) (by kernel_rfl) (fun _ _ _ h => h) (Or.inl ⟨by rfl, ?_⟩) hHeld ?_
  rotate_left 1
  · (intro w hSw; go_simp; try with_reducible rfl)
  try simp only [Act.put, List.setIfInBounds_toArray, List.set_cons_zero, List.set_cons_succ]
  refine takeL 5 (v := ?_) rfl (by kernel_rfl) (by kernel_rfl) (by kernel_rfl) (fun _ _ _ h => h) (Or.inl ⟨by rfl, ?_⟩) hHeld ?_
  rotate_left 1
  · (intro w hSw; go_simp; try with_reducible rfl)
  try simp only [Act.put, List.setIfInBounds_toArray, List.set_cons_zero, List.set_cons_succ]
  refine takeL 6 (v := ?_) rfl (by kernel_rfl) (by kernel_rfl) (by kernel_rfl) (fun _ _ _ h => h) (Or.inl ⟨by rfl, ?_⟩) hHeld ?_
  rotate_left 1
  · (intro w hSw; go_simp; try with_reducible rfl)
  try simp only [Act.put, List.setIfInBounds_toArray, List.set_cons_zero, List.set_cons_succ]
  refine takeL 7 (v := ?_) rfl (by kernel_rfl) (by kernel_rfl) (by kernel_rfl) (fun _ _ _ h => h) (Or.inl ⟨by rfl, ?_⟩) hHeld ?_
  rotate_left 1
  · (intro w hSw; go_simp; try with_reducible rfl)
  try simp only [Act.put, List.setIfInBounds_toArray, List.set_cons_zero, List.set_cons_succ]
  refine takeL 8 (v := ?_) rfl (by kernel_rfl) (by kernel_rfl) (by kernel_rfl) (fun _ _ _ h => h) (Or.inl ⟨by rfl, ?_⟩) hHeld ?_
  rotate_left 1
  · (intro w hSw; go_simp; try with_reducible rfl)
  try simp only [Act.put, List.setIfInBounds_toArray, List.set_cons_zero, List.set_cons_succ]
  refine takeL 9 (v := ?_) rfl (by kernel_rfl) (by kernel_rfl) (by kernel_rfl) (fun _ _ _ h => h) (Or.inl ⟨by rfl, ?_⟩) hHeld ?_
  rotate_left 1
  · (intro w hSw; go_simp; try with_reducible rfl)
  try simp only [Act.put, List.setIfInBounds_toArray, List.set_cons_zero, List.set_cons_succ]
  refine stepL 4 (by kernel_rfl) rfl (fun K hK => ?_)
  go_simp
  refine (HMa.out W0).mono ?_
  rintro e6 W1 ⟨rfl, hb⟩
  show K _ _
  have B1 := Bx.mk (B0.out.later hb)
  clear hb
  clear B0
  refine hK.out _ _ trivial (fun hHeld => ?_)
  clear hK K
  try simp only [Act.put, List.setIfInBounds_toArray, List.set_cons_zero, List.set_cons_succ]
  refine stepL 10 (by kernel_rfl) rfl (fun K hK => ?_)
  go_simp
  refine (HCo.out W1 _ _ B1.out.1.key.1 (B1.out.1.parts HVl.out W1 (kb_refl _ _))).mono ?_
  rintro e6 W2 ⟨vcc, rfl, hvcc, hb⟩
  show K _ _
  have B2 := Bx.mk (And.intro (B1.out.later hb) hvcc)
  obtain ⟨ac, cc, hvx, -⟩ := hvcc
  rw [HI.out.2.2] at hvx
  subst hvx
  clear hb
  clear B1
  refine hK.out _ _ trivial (fun hHeld => ?_)
  clear hK K
  try simp only [Act.put, List.setIfInBounds_toArray, List.set_cons_zero, List.set_cons_succ]
  refine stepL 11 (by kernel_rfl) rfl (fun K hK => ?_)
  go_simp
  refine (HSa.out W2 _ _ B2.out.1.2.1 B2.out.2).mono ?_
  rintro e6 W3 ⟨rfl, nd, hnd⟩
  show K _ _
  have B3 := Bx.mk (B2.out.1.later (W1 := W3) (by rw [hnd]; exact below_drewN (Below.refl _ _) _))
  clear hnd
  clear B2
  refine hK.out _ _ trivial (fun hHeld => ?_)
  clear hK K
  try simp only [Act.put, List.setIfInBounds_toArray, List.set_cons_zero, List.set_cons_succ]
  refine takeL 12 (v := ?_) rfl (by kernel_rfl) (by kernel_rfl) (by kernel_rfl) (fun _ _ _ h => h) (Or.inl ⟨by rfl, ?_⟩) hHeld ?_
  rotate_left 1
  · (intro w hSw; go_simp; try with_reducible rfl)
  try simp only [Act.put, List.setIfInBounds_toArray, List.set_cons_zero, List.set_cons_succ]
  refine takeL 13 (v := ?_) rfl (by kernel_rfl) (by kernel_rfl) (by kernel_rfl) (fun _ _ _ h => h) (Or.inl ⟨by rfl, ?_⟩) hHeld ?_
  rotate_left 1
  · (intro w hSw; go_simp; try with_reducible rfl)
  try simp only [Act.put, List.setIfInBounds_toArray, List.set_cons_zero, List.set_cons_succ]
  refine takeL 14 (v := ?_) rfl (by kernel_rfl) (by kernel_rfl) (by kernel_rfl) (fun _ _ _ h => h) (Or.inl ⟨by rfl, ?_⟩) hHeld ?_
  rotate_left 1
  · (intro w hSw; go_simp; try with_reducible rfl)
  try simp only [Act.put, List.setIfInBounds_toArray, List.set_cons_zero, List.set_cons_succ]
  refine takeL 15 (v := ?_) rfl (by kernel_rfl) (by kernel_rfl) (by kernel_rfl) (fun _ _ _ h => h) (Or.inl ⟨by rfl, ?_⟩) hHeld ?_
  rotate_left 1
  · (intro w hSw; go_simp; try with_reducible rfl)
  try simp only [Act.put, List.setIfInBounds_toArray, List.set_cons_zero, List.set_cons_succ]
  refine takeL 17 (v := ?_) rfl (by kernel_rfl) (by kernel_rfl) (by kernel_rfl) (fun _ _ _ h => h) (Or.inl ⟨by rfl, ?_⟩) hHeld ?_
  rotate_left 1
  · (intro w hSw; go_simp; try with_reducible rfl)
  try simp only [Act.put, List.setIfInBounds_toArray, List.set_cons_zero, List.set_cons_succ]
  refine takeL 18 (v := ?_) rfl (by kernel_rfl) (by kernel_rfl) (by kernel_rfl) (fun _ _ _ h => h) (Or.inl ⟨by rfl, ?_⟩) hHeld ?_
  rotate_left 1
  · (intro w hSw; go_simp; try with_reducible rfl)
  try simp only [Act.put, List.setIfInBounds_toArray, List.set_cons_zero, List.set_cons_succ]
  refine stepL 16 (by kernel_rfl) rfl (fun K hK => ?_)
  go_simp
  refine (HEp.out W3).mono ?_
  rintro e6 W4 ⟨rfl, hw6⟩
  show K _ _
  have B4 := Bx.mk (B3.out.later (W1 := W4) (by rw [← hw6]; exact Below.refl _ _))
  clear hw6
  clear B3
  refine hK.out _ _ trivial (fun hHeld => ?_)
  clear hK K
  try simp only [Act.put, List.setIfInBounds_toArray, List.set_cons_zero, List.set_cons_succ]
  refine takeL 19 (v := ?_) rfl (by kernel_rfl) (by kernel_rfl) (by kernel_rfl) (fun _ _ _ h => h) (Or.inl ⟨by rfl, ?_⟩) hHeld ?_
  rotate_left 1
  · (intro w hSw; go_simp; try with_reducible rfl)
  try simp only [Act.put, List.setIfInBounds_toArray, List.set_cons_zero, List.set_cons_succ]
  refine takeL 20 (v := ?_) rfl (by kernel_rfl) (by kernel_rfl) (by kernel_rfl) (fun _ _ _ h => h) (Or.inl ⟨by rfl, ?_⟩) hHeld ?_
  rotate_left 1
  · (intro w hSw; go_simp; try with_reducible rfl)
  try simp only [Act.put, List.setIfInBounds_toArray, List.set_cons_zero, List.set_cons_succ]
  refine takeL 21 (v := ?_) rfl (by kernel_rfl) (by kernel_rfl) (by kernel_rfl) (fun _ _ _ h => h) (Or.inl ⟨by rfl, ?_⟩) hHeld ?_
  rotate_left 1
  · (intro w hSw; go_simp; try with_reducible rfl)
  try simp only [Act.put, List.setIfInBounds_toArray, List.set_cons_zero, List.set_cons_succ]
  refine takeL 22 (v := ?_) rfl (by kernel_rfl) (by kernel_rfl) (by kernel_rfl) (fun _ _ _ h => h) (Or.inl ⟨by rfl, ?_⟩) hHeld ?_
  rotate_left 1
  · (intro w hSw; go_simp; try with_reducible rfl)
  try simp only [Act.put, List.setIfInBounds_toArray, List.set_cons_zero, List.set_cons_succ]
  refine takeL 24 (v := ?_) rfl (by kernel_rfl) (by kernel_rfl) (by kernel_rfl) (fun _ _ _ h => h) (Or.inl ⟨by rfl, ?_⟩) hHeld ?_
  rotate_left 1
  · (intro w hSw; go_simp; try with_reducible rfl)
  try simp only [Act.put, List.setIfInBounds_toArray, List.set_cons_zero, List.set_cons_succ]
  refine takeL 25 (v := ?_) rfl (by kernel_rfl) (by kernel_rfl) (by kernel_rfl) (fun _ _ _ h => h) (Or.inl ⟨by rfl, ?_⟩) hHeld ?_
  rotate_left 1
  · (intro w hSw; go_simp; try with_reducible rfl)
  try simp only [Act.put, List.setIfInBounds_toArray, List.set_cons_zero, List.set_cons_succ]
  refine takeL 26 (v := ?_) rfl (by kernel_rfl) (by kernel_rfl) (by kernel_rfl) (fun _ _ _ h => h) (Or.inl ⟨by rfl, ?_⟩) hHeld ?_
  rotate_left 1
  · (intro w hSw; go_simp; try with_reducible rfl)
  try simp only [Act.put, List.setIfInBounds_toArray, List.set_cons_zero, List.set_cons_succ]
  refine takeL 27 (v := ?_) rfl (by kernel_rfl) (by kernel_rfl) (by kernel_rfl) (fun _ _ _ h => h) (Or.inl ⟨by rfl, ?_⟩) hHeld ?_
  rotate_left 1
  · (intro w hSw; go_simp; try with_reducible rfl)
  try simp only [Act.put, List.setIfInBounds_toArray, List.set_cons_zero, List.set_cons_succ]
  refine stepL 23 (by kernel_rfl) rfl (fun K hK => ?_)
  go_simp
  refine (HEn.out W4).mono ?_
  rintro e6 W5 ⟨rfl, hw6⟩
  show K _ _
  have B5 := Bx.mk (B4.out.later (W1 := W5) (by rw [← hw6]; exact Below.refl _ _))
  clear hw6
  clear B4
  refine hK.out _ _ trivial (fun hHeld => ?_)
  clear hK K
  try simp only [Act.put, List.setIfInBounds_toArray, List.set_cons_zero, List.set_cons_succ]
  refine takeL 28 (v := ?_) rfl (by kernel_rfl) (by kernel_rfl) (by kernel_rfl) (fun _ _ _ h => h) (Or.inl ⟨by rfl, ?_⟩) hHeld ?_
  rotate_left 1
  · (intro w hSw; go_simp; try with_reducible rfl)
  try simp only [Act.put, List.setIfInBounds_toArray, List.set_cons_zero, List.set_cons_succ]
  refine takeL 29 (v := ?_) rfl (by kernel_rfl) (by kernel_rfl) (by kernel_rfl) (fun _ _ _ h => h) (Or.inl ⟨by rfl, ?_⟩) hHeld ?_
  rotate_left 1
  · (intro w hSw; go_simp; try with_reducible rfl)
  try simp only [Act.put, List.setIfInBounds_toArray, List.set_cons_zero, List.set_cons_succ]
  refine takeL 30 (v := ?_) rfl (by kernel_rfl) (by kernel_rfl) (by kernel_rfl) (fun _ _ _ h => h) (Or.inl ⟨by rfl, ?_⟩) hHeld ?_
  rotate_left 1
  · (intro w hSw; go_simp; try with_reducible rfl)
  try simp only [Act.put, List.setIfInBounds_toArray, List.set_cons_zero, List.set_cons_succ]
  refine takeL 31 (v := ?_) rfl (by kernel_rfl) (by kernel_rfl) (by kernel_rfl) (fun _ _ _ h => h) (Or.inl ⟨by rfl, ?_⟩) hHeld ?_
  rotate_left 1
  · (intro w hSw; go_simp; try with_reducible rfl)
  try simp only [Act.put, List.setIfInBounds_toArray, List.set_cons_zero, List.set_cons_succ]
  refine takeL 32 (v := ?_) rfl (by kernel_rfl) (by kernel_rfl) (by kernel_rfl) (fun _ _ _ h => h) (Or.inl ⟨by rfl, ?_⟩) hHeld ?_
  rotate_left 1
  · (intro w hSw; go_simp; try with_reducible rfl)
  try simp only [Act.put, List.setIfInBounds_toArray, List.set_cons_zero, List.set_cons_succ]
  refine takeL 33 (v := ?_) rfl (by kernel_rfl) (by kernel_rfl) (by kernel_rfl) (fun _ _ _ h => h) (Or.inl ⟨by rfl, ?_⟩) hHeld ?_
  rotate_left 1
  · (intro w hSw; go_simp; try with_reducible rfl)
  try simp only [Act.put, List.setIfInBounds_toArray, List.set_cons_zero, List.set_cons_succ]
  refine takeL 34 (v := ?_) rfl (by kernel_rfl) (by kernel_rfl) (by kernel_rfl) (fun _ _ _ h => h) (Or.inl ⟨by rfl, ?_⟩) hHeld ?_
  rotate_left 1
  · (intro w hSw; go_simp; try with_reducible rfl)
  try simp only [Act.put, List.setIfInBounds_toArray, List.set_cons_zero, List.set_cons_succ]
  refine takeL 35 (v := ?_) rfl (by kernel_rfl) (by kernel_rfl) (by kernel_rfl) (fun _ _ _ h => h) (Or.inl ⟨by rfl, ?_⟩) hHeld ?_
  rotate_left 1
  · (intro w hSw; go_simp; try with_reducible rfl)
  try simp only [Act.put, List.setIfInBounds_toArray, List.set_cons_zero, List.set_cons_succ]
  refine stepL 36 (by kernel_rfl) rfl (fun K hK => ?_)
  go_simp
  refine (HC1.out W5 p 1 _ _ B5.out.1.below B5.out.1.bk B5.out.2.1 (B5.out.1.parts HVl.out W5 (kb_refl _ _))).mono ?_
  rintro e6 W6 ⟨rfl, hb⟩
  show K _ _
  have B6 := Bx.mk (B5.out.later hb)
  clear hb
  clear B5
  refine hK.out _ _ trivial (fun hHeld => ?_)
  clear hK K
  try simp only [Act.put, List.setIfInBounds_toArray, List.set_cons_zero, List.set_cons_succ]
  refine takeL 37 (v := ?_) rfl (by kernel_rfl) (by kernel_rfl) (by kernel_rfl) (fun _ _ _ h => h) (Or.inl ⟨by rfl, ?_⟩) hHeld ?_
  rotate_left 1
  · (intro w hSw; go_simp; try with_reducible rfl)
  try simp only [Act.put, List.setIfInBounds_toArray, List.set_cons_zero, List.set_cons_succ]
  refine takeL 38 (v := ?_) rfl (by kernel_rfl) (by kernel_rfl) (by kernel_rfl) (fun _ _ _ h => h) (Or.inl ⟨by rfl, ?_⟩) hHeld ?_
  rotate_left 1
  · (intro w hSw; go_simp; try with_reducible rfl)
  try simp only [Act.put, List.setIfInBounds_toArray, List.set_cons_zero, List.set_cons_succ]
  refine wpAnyH_done (by kernel_rfl) ?_ _
  refine NoPanic.normal ?_
  clear hHeld
  go_wp2_with fail
  simp only [HW4.out]
  skip -- E8
  refine (HRi2.out W6).mono ?_
  rintro e7 W7 ⟨rfl, rfl⟩
  go_upto_region 13 with fail
  have C0 := Bx.mk (B6.out.later (Below.refl _ _).drew)
  clear B6
  refine wp_region_noPanic ?_
  refine wp_region_held_drew (S := fun _ => True) (by kernel_rfl) (trivial) (fun hHeld => ?_)
  generalize W6.drew = Z0 at *
  refine stepL 0 (by kernel_rfl) rfl (fun K hK => ?_)
  go_simp
  refine (HKn.out Z0 C0.out.1.below).mono ?_
  rintro e6 Z1 ⟨rfl, hb⟩
  show K _ _
  have C1 := Bx.mk (C0.out.later hb)
  clear hb
  clear C0
  refine hK.out _ _ trivial (fun hHeld => ?_)
  clear hK K
  try simp only [Act.put, List.setIfInBounds_toArray, List.set_cons_zero, List.set_cons_succ]
  refine takeL 1 (v := ?_) rfl (by kernel_rfl) (by kernel_rfl) (by kernel_rfl) (fun _ _ _ h => h) (Or.inl ⟨by rfl, ?_⟩) hHeld ?_
  rotate_left 1
  · (intro w hSw; go_simp; try with_reducible rfl)
  try simp only [Act.put, List.setIfInBounds_toArray, List.set_cons_zero, List.set_cons_succ]
  refine takeL 2 (v := ?_) rfl (by kernel_rfl) (by kernel_rfl) (by kernel_rfl) (fun _ _ _ h => h) (Or.inl ⟨by rfl, ?_⟩) hHeld ?_
  rotate_left 1
  · (intro w hSw; go_simp; try with_reducible rfl)
  try simp only [Act.put, List.setIfInBounds_toArray, List.set_cons_zero, List.set_cons_succ]
  refine takeL 3 (v := ?_) rfl (by kernel_rfl) (by kernel_rfl) (by kernel_rfl) (fun _ _ _ h => h) (Or.inl ⟨by rfl, ?_⟩) hHeld ?_
  rotate_left 1
  · (intro w hSw; go_simp; try with_reducible rfl)
  try simp only [Act.put, List.setIfInBounds_toArray, List.set_cons_zero, List.set_cons_succ]
  refine takeL 4 (v := ?_) rfl (by kernel_rfl) (by kernel_rfl) (by kernel_rfl) (fun _ _ _ h => h) (Or.inl ⟨by rfl, ?_⟩) hHeld ?_
  rotate_left 1
  · (intro w hSw; go_simp; try with_reducible rfl)
  try simp only [Act.put, List.setIfInBounds_toArray, List.set_cons_zero, List.set_cons_succ]
  refine takeL 5 (v := ?_) rfl (by kernel_rfl) (by kernel_rfl) (by kernel_rfl) (fun _ _ _ h => h) (Or.inl ⟨by rfl, ?_⟩) hHeld ?_
  rotate_left 1
  · (intro w hSw; go_simp; try with_reducible rfl)
  try simp only [Act.put, List.setIfInBounds_toArray, List.set_cons_zero, List.set_cons_succ]
  refine takeL 6 (v := ?_) rfl (by kernel_rfl) (by kernel_rfl) (by kernel_rfl) (fun _ _ _ h => h) (Or.inl ⟨by rfl, ?_⟩) hHeld ?_
  rotate_left 1
  · (intro w hSw; go_simp; try with_reducible rfl)
  try simp only [Act.put, List.setIfInBounds_toArray, List.set_cons_zero, List.set_cons_succ]
  refine takeL 9 (v := ?_) rfl (by kernel_rfl) (by kernel_rfl) (by kernel_rfl) (fun _ _ _ h => h) (Or.inl ⟨by rfl, ?_⟩) hHeld ?_
  rotate_left 1
  · (intro w hSw; go_simp; try with_reducible rfl)
  try simp only [Act.put, List.setIfInBounds_toArray, List.set_cons_zero, List.set_cons_succ]
  refine takeL 10 (v := ?_) rfl (by kernel_rfl) (by kernel_rfl) (by kernel_rfl) (fun _ _ _ h => h) (Or.inl ⟨by rfl, ?_⟩) hHeld ?_
  rotate_left 1
  · (intro w hSw; go_simp; try with_reducible rfl)
  try simp only [Act.put, List.setIfInBounds_toArray, List.set_cons_zero, List.set_cons_succ]
  refine stepL 7 (by kernel_rfl) rfl (fun K hK => ?_)
  go_simp
  refine (HC2.out Z1 p 1 _ _ C1.out.1.below C1.out.1.bk C1.out.2.1 (C1.out.1.parts HVl.out Z1 (kb_refl _ _))).mono ?_
  rintro e6 Z2 ⟨rfl, hk, hgr⟩
  show K _ _
  have C2 := Bx.mk (C1.out.step hk hgr)
  clear hk hgr
  clear C1
  refine hK.out _ _ trivial (fun hHeld => ?_)
  clear hK K
  try simp only [Act.put, List.setIfInBounds_toArray, List.set_cons_zero, List.set_cons_succ]
  refine takeL 8 (v := ?_) rfl (by kernel_rfl) (by kernel_rfl) (by kernel_rfl) (fun _ _ _ h => h) (Or.inl ⟨by rfl, ?_⟩) hHeld ?_
  rotate_left 1
  · (intro w hSw; go_simp; try with_reducible rfl)
  try simp only [Act.put, List.setIfInBounds_toArray, List.set_cons_zero, List.set_cons_succ]
  refine stepL 11 (by kernel_rfl) rfl (fun K hK => ?_)
  go_simp
  refine (HEn.out Z2).mono ?_
  rintro e6 Z3 ⟨rfl, hw6⟩
  show K _ _
  have C3 := Bx.mk (C2.out.later (W1 := Z3) (by rw [← hw6]; exact Below.refl _ _))
  clear hw6
  clear C2
  refine hK.out _ _ trivial (fun hHeld => ?_)
  clear hK K
  try simp only [Act.put, List.setIfInBounds_toArray, List.set_cons_zero, List.set_cons_succ]
  refine takeL 12 (v := ?_) rfl (by kernel_rfl) (by kernel_rfl) (by kernel_rfl) (fun _ _ _ h => h) (Or.inl ⟨by rfl, ?_⟩) hHeld ?_
  rotate_left 1
  · (intro w hSw; go_simp; try with_reducible rfl)
  try simp only [Act.put, List.setIfInBounds_toArray, List.set_cons_zero, List.set_cons_succ]
  refine takeL 13 (v := ?_) rfl (by kernel_rfl) (by kernel_rfl) (by kernel_rfl) (fun _ _ _ h => h) (Or.inl ⟨by rfl, ?_⟩) hHeld ?_
  rotate_left 1
  · (intro w hSw; go_simp; try with_reducible rfl)
  try simp only [Act.put, List.setIfInBounds_toArray, List.set_cons_zero, List.set_cons_succ]
  refine takeL 15 (v := ?_) rfl (by kernel_rfl) (by kernel_rfl) (by kernel_rfl) (fun _ _ _ h => h) (Or.inl ⟨by rfl, ?_⟩) hHeld ?_
  rotate_left 1
  · (intro w hSw; go_simp; try with_reducible rfl)
  try simp only [Act.put, List.setIfInBounds_toArray, List.set_cons_zero, List.set_cons_succ]
  refine takeL 16 (v := ?_) rfl (by kernel_rfl) (by kernel_rfl) (by kernel_rfl) (fun _ _ _ h => h) (Or.inl ⟨by rfl, ?_⟩) hHeld ?_
  rotate_left 1
  · (intro w hSw; go_simp; try with_reducible rfl)
  try simp only [Act.put, List.setIfInBounds_toArray, List.set_cons_zero, List.set_cons_succ]
  refine takeL 17 (v := ?_) rfl (by kernel_rfl) (by kernel_rfl) (by kernel_rfl) (fun _ _ _ h => h) (Or.inl ⟨by rfl, ?_⟩) hHeld ?_
  rotate_left 1
  · (intro w hSw; go_simp; try with_reducible rfl)
  try simp only [Act.put, List.setIfInBounds_toArray, List.set_cons_zero, List.set_cons_succ]
  refine takeL 18 (v := ?_) rfl (by kernel_rfl) (by kernel_rfl) (by kernel_rfl) (fun _ _ _ h => h) (Or.inl ⟨by rfl, ?_⟩) hHeld ?_
  rotate_left 1
  · (intro w hSw; go_simp; try with_reducible rfl)
  try simp only [Act.put, List.setIfInBounds_toArray, List.set_cons_zero, List.set_cons_succ]
  refine takeL 19 (v := ?_) rfl (by kernel_rfl) (by kernel_rfl) (by kernel_rfl) (fun _ _ _ h => h) (Or.inl ⟨by rfl, ?_⟩) hHeld ?_
  rotate_left 1
  · (intro w hSw; go_simp; try with_reducible rfl)
  try simp only [Act.put, List.setIfInBounds_toArray, List.set_cons_zero, List.set_cons_succ]
  refine stepL 14 (by kernel_rfl) rfl (fun K hK => ?_)
  go_simp
  refine (HMa.out Z3).mono ?_
  rintro e6 Z4 ⟨rfl, hb⟩
  show K _ _
  have C4 := Bx.mk (C3.out.later hb)
  clear hb
  clear C3
  refine hK.out _ _ trivial (fun hHeld => ?_)
  clear hK K
  try simp only [Act.put, List.setIfInBounds_toArray, List.set_cons_zero, List.set_cons_succ]
  refine stepL 20 (by kernel_rfl) rfl (fun K hK => ?_)
  go_simp
  refine (HFr.out Z4 _ _ _ C4.out.1.key.1 C4.out.2.1 (C4.out.1.parts HVl.out Z4 (kb_refl _ _))).mono ?_
  rintro e6 Z5 ⟨rfl, hb⟩
  show K _ _
  have C5 := Bx.mk (C4.out.later hb)
  clear hb
  clear C4
  refine hK.out _ _ trivial (fun hHeld => ?_)
  clear hK K
  try simp only [Act.put, List.setIfInBounds_toArray, List.set_cons_zero, List.set_cons_succ]
  refine takeL 21 (v := ?_) rfl (by kernel_rfl) (by kernel_rfl) (by kernel_rfl) (fun _ _ _ h => h) (Or.inl ⟨by rfl, ?_⟩) hHeld ?_
  rotate_left 1
  · (intro w hSw; go_simp; try with_reducible rfl)
  try simp only [Act.put, List.setIfInBounds_toArray, List.set_cons_zero, List.set_cons_succ]
  refine takeL 22 (v := ?_) rfl (by kernel_rfl) (by kernel_rfl) (by kernel_rfl) (fun _ _ _ h => h) (Or.inl ⟨by rfl, ?_⟩) hHeld ?_
  rotate_left 1
  · (intro w hSw; go_simp; try with_reducible rfl)
  try simp only [Act.put, List.setIfInBounds_toArray, List.set_cons_zero, List.set_cons_succ]
  refine takeL 23 (v := ?_) rfl (by kernel_rfl) (by kernel_rfl) (by kernel_rfl) (fun _ _ _ h => h) (Or.inl ⟨by rfl, ?_⟩) hHeld ?_
  rotate_left 1
  · (intro w hSw; go_simp; try with_reducible rfl)
  try simp only [Act.put, List.setIfInBounds_toArray, List.set_cons_zero, List.set_cons_succ]
  refine takeL 24 (v := ?_) rfl (by kernel_rfl) (by kernel_rfl) (by kernel_rfl) (fun _ _ _ h => h) (Or.inl ⟨by rfl, ?_⟩) hHeld ?_
  rotate_left 1
  · (intro w hSw; go_simp; try with_reducible rfl)
  try simp only [Act.put, List.setIfInBounds_toArray, List.set_cons_zero, List.set_cons_succ]
  refine wpAnyH_done (by kernel_rfl) ?_ _
  refine NoPanic.normal ?_
  clear hHeld
  go_wp2
  go_ret
  exact ⟨rfl, C5.out.1.below⟩
end Go.Proofs.YtncbhnkhbohejaaDoor
namespace Go.Proofs.YtncbhnkhbohejaaDoor
open Go Go.RowKit
theorem cbak_any (bs : List UInt8) (pss : List (List UInt8)) (v vp : Value) (a t l : Int) (w : World) (hv : Bytes w v bs) (hl : bs.length ≤ 9223372036854775807) (hvp : Parts w vp pss) (hpn : pss.length ≤ 9223372036854775807) (hpl : ∀ p ∈ pss, p.length ≤ 9223372036854775807) (hTb : Tab w) (hg : 0 < w.heap.size) :
    Calls Tryd.prog 3 #[v, .int .i64 a, .int .i64 t, .int .i64 l, vp] w fun e w' => e = .returned (.bool true) ∧ Below w.heap.size w w' := by
  cases hr : rightQ a t with
  | false => exact cbak_a bs pss v vp a t l w hv hl hvp hpn hpl hTb hg hr
  | true =>
    have h' : (0 ≤ a ∧ a < 65536 ∧ 0 ≤ t ∧ t ≤ 1073741824) := of_decide_eq_true hr
    obtain ⟨a, rfl⟩ := Int.eq_ofNat_of_zero_le h'.1
    obtain ⟨t, rfl⟩ := Int.eq_ofNat_of_zero_le h'.2.2.1
    obtain ⟨u, hu⟩ := Int.eq_ofNat_of_zero_le (show 0 ≤ l % 18446744073709551616 % 300 from Int.emod_nonneg _ (by decide))
    cases hr2 : rightQ (a : Int) ((t : Int) + (u : Int)) with
    | false => exact cbak_b1 bs pss v vp a t l w hv hl hvp hpn hpl hTb hg hr u hu hr2
    | true =>
      by_cases he : (t + u) < (t / 64 + 2) * 64
      · exact cbak_b2 bs pss v vp a t l w hv hl hvp hpn hpl hTb hg hr u hu hr2 he
      · cases hf : freK (keyQ bs) ((t + u) / 64) a (cut3Q pss) (cookK (keyQ bs) (t / 64) a (cut3Q pss)) with
        | true => exact cbak_b3 bs pss v vp a t l w hv hl hvp hpn hpl hTb hg hr u hu hr2 (by omega) hf
        | false => exact cbak_b4 bs pss v vp a t l w hv hl hvp hpn hpl hTb hg hr u hu hr2 (by omega) hf
end Go.Proofs.YtncbhnkhbohejaaDoor
