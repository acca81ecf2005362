/-
  CookieChecks: whether any bytes are a fresh cookie.
-/
import Derived.Test.YtncbhnkhbohejaaDoorX14
import Derived.Test.YtncbhnkhbohejaaDoorGa
import Derived.Test.YtncbhnkhbohejaaDoorRows
import Derived.ProofKit
import Derived.OpenShut
import Derived.ShutString
import Derived.ChangeOld
import Derived.Below
import Derived.Deep.DeepHandedRow
import Derived.Lib.LaidTab
import Derived.Deep.Matrix
import Derived.Test.YtncbhnkhbohejaaDoorAb
namespace Go.Proofs.YtncbhnkhbohejaaDoor
open Go Go.RowKit
set_option maxRecDepth 100000 in
set_option maxHeartbeats 4000000 in
theorem cchk_a (bs cs : List UInt8) (pss : List (List UInt8)) (v vc vp : Value) (a t : Int) (w : World) (hv : Bytes w v bs) (hl : bs.length ≤ 9223372036854775807) (hvc : Bytes w vc cs) (hcl : cs.length ≤ 9223372036854775807) (hvp : Parts w vp pss) (hpn : pss.length ≤ 9223372036854775807) (hpl : ∀ p ∈ pss, p.length ≤ 9223372036854775807) (hTb : Tab w) (hg : 0 < w.heap.size)
    (hr : rightQ a t = false) :
    Calls Tryd.prog 4 #[v, vc, .int .i64 a, .int .i64 t, vp] w fun e w' => e = .returned (.bool true) ∧ Below w.heap.size w w' := by
  have HBa := Bx.mk (baker10_any bs v w hv hl)
  have HFe := Bx.mk fun (W : World) (hb : Below w.heap.size w W) => few10_any pss vp w W hb hvp hpn hpl
  have HRi := Bx.mk fun (W : World) => rright10 a t W
  rw [hr] at HRi
  have HKn := Bx.mk fun (W : World) (hb : Below w.heap.size w W) => known10_any W (hTb.later hb hg) (Nat.lt_of_lt_of_le hg hb.size)
  have HCo := Bx.mk fun (W : World) (p : Nat) (h : Bk W p p 0 0 (keyQ bs)) => counts_any p p 0 0 (keyQ bs) W h (by omega) (by omega)
  have HCh := Bx.mk fun (W : World) (p : Nat) (vc' vo : Value) (h : Bk W p p 0 0 (keyQ bs)) => check_bad p h.parts.choose a t vc' vo W h.parts.choose_spec.2.2.1 hr
  have HV := Bx.mk hvc
  obtain ⟨ad, cap, rfl, hc, hnone, -⟩ := hvc
  obtain ⟨n, hn⟩ : ∃ n, cs.length = n := ⟨_, rfl⟩
  rw [hn] at HV hcl hc ⊢
  obtain ⟨mm, hmm⟩ : ∃ mm, mm = min n 20 := ⟨_, rfl⟩
  have m1 : (if (20 : Int) < (n : Int) then (20 : Int) else (n : Int)) = (mm : Int) := by split <;> omega
  have s1 := fun W => cut_bytes ad n cap mm (by omega) (by omega) hnone W
  have hmc : (mm : Int) ≤ (cap : Int) := by omega
  have hn1 : (n : Int) ≤ 9223372036854775807 := by omega
  have hlm : (cs.take 20).length = mm := by rw [List.length_take]; omega
  have HB : Bx (Bytes w (.slice ad mm cap) (cs.take 20)) := Bx.mk (by
    have h := HV.out.take mm (by omega)
    have e : cs.take mm = cs.take 20 := by rw [hmm, ← hn, Nat.min_comm, ← List.take_take, List.take_length]
    rw [e] at h
    exact h)
  clear hmm hn hnone hc hv hvp hpn hpl hTb hg HV hlm hr
  go_enter Tryd.func4, Tryd.ntmps4
  go_wp2_with fail
  refine HBa.out.mono ?_
  rintro e w1 ⟨p, vk, rfl, h1, h2, h3, h4, h5⟩
  have H1 := Bx.mk (And.intro h1 (And.intro h2 (And.intro h3 (And.intro (h4 p (.inr (Nat.le_refl _))) h5))))
  clear h1 h2 h3 h4 h5 HBa
  go_wp2_with fail
  refine (HFe.out w1 H1.out.2.2.1).mono ?_
  rintro e w2 ⟨vo, xs, rfl, h1, h2, h3⟩
  have H2 : Bx (CS w p (keyQ bs) vk vo xs 0 0 w2) := Bx.mk (CS.make H1.out.2.1 H1.out.2.2.1 H1.out.2.2.2.1 H1.out.1 H1.out.2.2.2.2 h2 h3)
  have HVl := Bx.mk h1
  clear h1 h2 h3 HFe H1
  go_wp2_with fail
  refine (HCh.out w2 p _ _ H2.out.bk).mono ?_
  rintro e w3 ⟨rfl, rfl⟩
  have H3 := Bx.mk H2.out
  clear HCh H2
  go_wp2_with fail
  refine (HCo.out w2 p H3.out.bk).mono ?_
  rintro e w4 ⟨rfl, hb⟩
  have H4 := Bx.mk (H3.out.later hb)
  clear hb H3 HCo
  go_wp2_with fail
  refine (HRi.out w4).mono ?_
  rintro e w5 ⟨rfl, rfl⟩
  go_wp2_with fail
  refine (HKn.out w4 H4.out.below).mono ?_
  rintro e w7 ⟨rfl, hb⟩
  have H7 := Bx.mk (H4.out.later hb).below
  clear hb H4
  skip -- Ma
  go_wp2
  go_ret
  exact ⟨rfl, H7.out⟩
set_option maxRecDepth 100000 in
set_option maxHeartbeats 4000000 in
theorem cchk_b (bs cs : List UInt8) (pss : List (List UInt8)) (v vc vp : Value) (a t : Nat) (w : World) (hv : Bytes w v bs) (hl : bs.length ≤ 9223372036854775807) (hvc : Bytes w vc cs) (hcl : cs.length ≤ 9223372036854775807) (hvp : Parts w vp pss) (hpn : pss.length ≤ 9223372036854775807) (hpl : ∀ p ∈ pss, p.length ≤ 9223372036854775807) (hTb : Tab w) (hg : 0 < w.heap.size)
    (hr : rightQ (a : Int) (t : Int) = true) (h16 : (cs.take 20).length ≠ 16) :
    Calls Tryd.prog 4 #[v, vc, .int .i64 (a : Int), .int .i64 (t : Int), vp] w fun e w' => e = .returned (.bool true) ∧ Below w.heap.size w w' := by
  have HBa := Bx.mk (baker10_any bs v w hv hl)
  have HFe := Bx.mk fun (W : World) (hb : Below w.heap.size w W) => few10_any pss vp w W hb hvp hpn hpl
  have HRi := Bx.mk fun (W : World) => rright10 (a : Int) (t : Int) W
  rw [hr] at HRi
  have HKn := Bx.mk fun (W : World) (hb : Below w.heap.size w W) => known10_any W (hTb.later hb hg) (Nat.lt_of_lt_of_le hg hb.size)
  have HCo := Bx.mk fun (W : World) (p : Nat) (h : Bk W p p 0 0 (keyQ bs)) => counts_any p p 0 0 (keyQ bs) W h (by omega) (by omega)
  have HCh := Bx.mk fun (W : World) (p : Nat) (vc' vo : Value) (h : Bk W p p 0 0 (keyQ bs)) (hv' : Bytes W vc' (cs.take 20)) => check_form p h.parts.choose (a : Int) (t : Int) (cs.take 20) vc' vo W hv' h16 (by rw [List.length_take]; omega) h.parts.choose_spec.2.2.1 hr
  have HV := Bx.mk hvc
  obtain ⟨ad, cap, rfl, hc, hnone, -⟩ := hvc
  obtain ⟨n, hn⟩ : ∃ n, cs.length = n := ⟨_, rfl⟩
  rw [hn] at HV hcl hc ⊢
  obtain ⟨mm, hmm⟩ : ∃ mm, mm = min n 20 := ⟨_, rfl⟩
  have m1 : (if (20 : Int) < (n : Int) then (20 : Int) else (n : Int)) = (mm : Int) := by split <;> omega
  have s1 := fun W => cut_bytes ad n cap mm (by omega) (by omega) hnone W
  have hmc : (mm : Int) ≤ (cap : Int) := by omega
  have hn1 : (n : Int) ≤ 9223372036854775807 := by omega
  have hlm : (cs.take 20).length = mm := by rw [List.length_take]; omega
  have HB : Bx (Bytes w (.slice ad mm cap) (cs.take 20)) := Bx.mk (by
    have h := HV.out.take mm (by omega)
    have e : cs.take mm = cs.take 20 := by rw [hmm, ← hn, Nat.min_comm, ← List.take_take, List.take_length]
    rw [e] at h
    exact h)
  rw [hlm] at h16
  have HG : Bx (¬ (mm : Int) = 16) := Bx.mk (by omega)
  clear hmm hn hnone hc hv hvp hpn hpl hTb hg HV hlm hr h16
  go_enter Tryd.func4, Tryd.ntmps4
  go_wp2_with fail
  refine HBa.out.mono ?_
  rintro e w1 ⟨p, vk, rfl, h1, h2, h3, h4, h5⟩
  have H1 := Bx.mk (And.intro h1 (And.intro h2 (And.intro h3 (And.intro (h4 p (.inr (Nat.le_refl _))) h5))))
  clear h1 h2 h3 h4 h5 HBa
  go_wp2_with fail
  refine (HFe.out w1 H1.out.2.2.1).mono ?_
  rintro e w2 ⟨vo, xs, rfl, h1, h2, h3⟩
  have H2 : Bx (CS w p (keyQ bs) vk vo xs 0 0 w2) := Bx.mk (CS.make H1.out.2.1 H1.out.2.2.1 H1.out.2.2.2.1 H1.out.1 H1.out.2.2.2.2 h2 h3)
  have HVl := Bx.mk h1
  clear h1 h2 h3 HFe H1
  go_wp2_with fail
  refine (HCh.out w2 p _ _ H2.out.bk (HB.out.later H2.out.below)).mono ?_
  rintro e w3 ⟨rfl, rfl⟩
  have H3 := Bx.mk H2.out
  clear HCh H2
  go_wp2_with fail
  refine (HCo.out w2 p H3.out.bk).mono ?_
  rintro e w4 ⟨rfl, hb⟩
  have H4 := Bx.mk (H3.out.later hb)
  clear hb H3 HCo
  go_wp2_with fail
  refine (HRi.out w4).mono ?_
  rintro e w5 ⟨rfl, rfl⟩
  have hG := HG.out
  go_wp2_with fail
  refine (HKn.out w4 H4.out.below).mono ?_
  rintro e w7 ⟨rfl, hb⟩
  have H7 := Bx.mk (H4.out.later hb).below
  clear hb H4
  skip -- Mb
  go_wp2
  go_ret
  exact ⟨rfl, H7.out⟩
set_option maxRecDepth 100000 in
set_option maxHeartbeats 4000000 in
theorem cchk_c (bs cs : List UInt8) (pss : List (List UInt8)) (v vc vp : Value) (a t : Nat) (w : World) (hv : Bytes w v bs) (hl : bs.length ≤ 9223372036854775807) (hvc : Bytes w vc cs) (hcl : cs.length ≤ 9223372036854775807) (hvp : Parts w vp pss) (hpn : pss.length ≤ 9223372036854775807) (hpl : ∀ p ∈ pss, p.length ≤ 9223372036854775807) (hTb : Tab w) (hg : 0 < w.heap.size)
    (hr : rightQ (a : Int) (t : Int) = true) (h16 : (cs.take 20).length = 16) (hf : freK (keyQ bs) (t / 64) a (cut3Q pss) (cs.take 20) = true) :
    Calls Tryd.prog 4 #[v, vc, .int .i64 (a : Int), .int .i64 (t : Int), vp] w fun e w' => e = .returned (.bool true) ∧ Below w.heap.size w w' := by
  have HBa := Bx.mk (baker10_any bs v w hv hl)
  have HFe := Bx.mk fun (W : World) (hb : Below w.heap.size w W) => few10_any pss vp w W hb hvp hpn hpl
  have HRi := Bx.mk fun (W : World) => rright10 (a : Int) (t : Int) W
  rw [hr] at HRi
  have HKn := Bx.mk fun (W : World) (hb : Below w.heap.size w W) => known10_any W (hTb.later hb hg) (Nat.lt_of_lt_of_le hg hb.size)
  have HCo := Bx.mk fun (W : World) (p : Nat) (h : Bk W p p 0 0 (keyQ bs)) => counts_any p p 0 0 (keyQ bs) W h (by omega) (by omega)
  obtain ⟨ha1, ha2, ht1, ht2⟩ : (0 ≤ (a : Int) ∧ (a : Int) < 65536 ∧ 0 ≤ (t : Int) ∧ (t : Int) ≤ 1073741824) := of_decide_eq_true hr
  obtain ⟨tbl, htb⟩ : ∃ tbl : List Value, u32s (kTab ++ hTab) = tbl.toArray := ⟨(u32s (kTab ++ hTab)).toList, rfl⟩
  have HMa := Bx.mk fun (W : World) => make_any W
  rw [htb] at HMa
  have HFr := Bx.mk fun (W : World) (vk vc' vo : Value) (h1 : Bytes W vk (keyQ bs)) (h2 : Bytes W vc' (cs.take 20)) (h3 : PartsR W vo (cut3Q pss)) => rfresh_any tbl htb (keyQ bs) (cs.take 20) t a (cut3Q pss) vk vc' vo W h1 h2 h3 (by have := (keyQ_le bs).1; omega) (by omega) (by have := cut3Q_len pss; omega) (fun q hq => by have := cut3Q_each pss q hq; omega) (by omega) (by omega)
  rw [hf] at HFr
  have HCh := Bx.mk fun (W : World) (p : Nat) (vc' vo : Value) (hb : Below w.heap.size w W) (h : Bk W p p 0 0 (keyQ bs)) (hv' : Bytes W vc' (cs.take 20)) (hq : PartsR W vo (cut3Q pss)) => check_ok p h.parts.choose t a (keyQ bs) (cs.take 20) (cut3Q pss) vc' vo W hv' h16 h.parts.choose_spec.2.2.1 h.parts.choose_spec.2.2.2.2 hq hr (by have := (keyQ_le bs).1; omega) (by have := cut3Q_len pss; omega) (fun q hq => by have := cut3Q_each pss q hq; omega) (hTb.later hb hg) (Nat.lt_of_lt_of_le hg hb.size) hf
  have HV := Bx.mk hvc
  obtain ⟨ad, cap, rfl, hc, hnone, -⟩ := hvc
  obtain ⟨n, hn⟩ : ∃ n, cs.length = n := ⟨_, rfl⟩
  rw [hn] at HV hcl hc ⊢
  obtain ⟨mm, hmm⟩ : ∃ mm, mm = min n 20 := ⟨_, rfl⟩
  have m1 : (if (20 : Int) < (n : Int) then (20 : Int) else (n : Int)) = (mm : Int) := by split <;> omega
  have s1 := fun W => cut_bytes ad n cap mm (by omega) (by omega) hnone W
  have hmc : (mm : Int) ≤ (cap : Int) := by omega
  have hn1 : (n : Int) ≤ 9223372036854775807 := by omega
  have hlm : (cs.take 20).length = mm := by rw [List.length_take]; omega
  have HB : Bx (Bytes w (.slice ad mm cap) (cs.take 20)) := Bx.mk (by
    have h := HV.out.take mm (by omega)
    have e : cs.take mm = cs.take 20 := by rw [hmm, ← hn, Nat.min_comm, ← List.take_take, List.take_length]
    rw [e] at h
    exact h)
  rw [hlm] at h16
  have HG : Bx ((mm : Int) = 16) := Bx.mk (by omega)
  clear hmm hn hnone hc hv hvp hpn hpl hTb hg HV hlm hr h16 hf htb ha1 ha2 ht1 ht2
  go_enter Tryd.func4, Tryd.ntmps4
  go_wp2_with fail
  refine HBa.out.mono ?_
  rintro e w1 ⟨p, vk, rfl, h1, h2, h3, h4, h5⟩
  have H1 := Bx.mk (And.intro h1 (And.intro h2 (And.intro h3 (And.intro (h4 p (.inr (Nat.le_refl _))) h5))))
  clear h1 h2 h3 h4 h5 HBa
  go_wp2_with fail
  refine (HFe.out w1 H1.out.2.2.1).mono ?_
  rintro e w2 ⟨vo, xs, rfl, h1, h2, h3⟩
  have H2 : Bx (CS w p (keyQ bs) vk vo xs 0 0 w2) := Bx.mk (CS.make H1.out.2.1 H1.out.2.2.1 H1.out.2.2.2.1 H1.out.1 H1.out.2.2.2.2 h2 h3)
  have HVl := Bx.mk h1
  clear h1 h2 h3 HFe H1
  go_wp2_with fail
  refine (HCh.out w2 p _ _ H2.out.below H2.out.bk (HB.out.later H2.out.below) (H2.out.parts HVl.out w2 (kb_refl _ _))).mono ?_
  rintro e w3 ⟨rfl, hb⟩
  have H3 := Bx.mk (H2.out.later hb)
  clear hb
  clear HCh H2
  go_wp2_with fail
  refine (HCo.out w3 p H3.out.bk).mono ?_
  rintro e w4 ⟨rfl, hb⟩
  have H4 := Bx.mk (H3.out.later hb)
  clear hb H3 HCo
  go_wp2_with fail
  refine (HRi.out w4).mono ?_
  rintro e w5 ⟨rfl, rfl⟩
  have hG := HG.out
  go_wp2_with fail
  refine (HMa.out w4).mono ?_
  rintro e w5 ⟨rfl, hb⟩
  have H5 := Bx.mk (H4.out.later hb)
  clear hb H4
  go_wp2_with fail
  refine (HFr.out w5 _ _ _ H5.out.key.1 (HB.out.later H5.out.below) (H5.out.parts HVl.out w5 (kb_refl _ _))).mono ?_
  rintro e w6 ⟨rfl, hb⟩
  have H4 := Bx.mk (H5.out.later hb)
  clear hb H5
  go_wp2_with fail
  refine (HKn.out w6 H4.out.below).mono ?_
  rintro e w7 ⟨rfl, hb⟩
  have H7 := Bx.mk (H4.out.later hb).below
  clear hb H4
  skip -- Mc
  go_wp2
  go_ret
  exact ⟨rfl, H7.out⟩
set_option maxRecDepth 100000 in
set_option maxHeartbeats 4000000 in
theorem cchk_d (bs cs : List UInt8) (pss : List (List UInt8)) (v vc vp : Value) (a t : Nat) (w : World) (hv : Bytes w v bs) (hl : bs.length ≤ 9223372036854775807) (hvc : Bytes w vc cs) (hcl : cs.length ≤ 9223372036854775807) (hvp : Parts w vp pss) (hpn : pss.length ≤ 9223372036854775807) (hpl : ∀ p ∈ pss, p.length ≤ 9223372036854775807) (hTb : Tab w) (hg : 0 < w.heap.size)
    (hr : rightQ (a : Int) (t : Int) = true) (h16 : (cs.take 20).length = 16) (hf : freK (keyQ bs) (t / 64) a (cut3Q pss) (cs.take 20) = false) :
    Calls Tryd.prog 4 #[v, vc, .int .i64 (a : Int), .int .i64 (t : Int), vp] w fun e w' => e = .returned (.bool true) ∧ Below w.heap.size w w' := by
  have HBa := Bx.mk (baker10_any bs v w hv hl)
  have HFe := Bx.mk fun (W : World) (hb : Below w.heap.size w W) => few10_any pss vp w W hb hvp hpn hpl
  have HRi := Bx.mk fun (W : World) => rright10 (a : Int) (t : Int) W
  rw [hr] at HRi
  have HKn := Bx.mk fun (W : World) (hb : Below w.heap.size w W) => known10_any W (hTb.later hb hg) (Nat.lt_of_lt_of_le hg hb.size)
  have HCo := Bx.mk fun (W : World) (p : Nat) (h : Bk W p p 0 1 (keyQ bs)) => counts_any p p 0 1 (keyQ bs) W h (by omega) (by omega)
  obtain ⟨ha1, ha2, ht1, ht2⟩ : (0 ≤ (a : Int) ∧ (a : Int) < 65536 ∧ 0 ≤ (t : Int) ∧ (t : Int) ≤ 1073741824) := of_decide_eq_true hr
  obtain ⟨tbl, htb⟩ : ∃ tbl : List Value, u32s (kTab ++ hTab) = tbl.toArray := ⟨(u32s (kTab ++ hTab)).toList, rfl⟩
  have HMa := Bx.mk fun (W : World) => make_any W
  rw [htb] at HMa
  have HFr := Bx.mk fun (W : World) (vk vc' vo : Value) (h1 : Bytes W vk (keyQ bs)) (h2 : Bytes W vc' (cs.take 20)) (h3 : PartsR W vo (cut3Q pss)) => rfresh_any tbl htb (keyQ bs) (cs.take 20) t a (cut3Q pss) vk vc' vo W h1 h2 h3 (by have := (keyQ_le bs).1; omega) (by omega) (by have := cut3Q_len pss; omega) (fun q hq => by have := cut3Q_each pss q hq; omega) (by omega) (by omega)
  rw [hf] at HFr
  have HCh := Bx.mk fun (W : World) (p : Nat) (vc' vo : Value) (hb : Below w.heap.size w W) (h : Bk W p p 0 0 (keyQ bs)) (hv' : Bytes W vc' (cs.take 20)) (hq : PartsR W vo (cut3Q pss)) => check_old p t a 0 0 (keyQ bs) (cs.take 20) (cut3Q pss) vc' vo W hv' h16 h hq hr (by omega) (by have := (keyQ_le bs).1; omega) (by have := cut3Q_len pss; omega) (fun q hq => by have := cut3Q_each pss q hq; omega) (hTb.later hb hg) (Nat.lt_of_lt_of_le hg hb.size) hf
  have HV := Bx.mk hvc
  obtain ⟨ad, cap, rfl, hc, hnone, -⟩ := hvc
  obtain ⟨n, hn⟩ : ∃ n, cs.length = n := ⟨_, rfl⟩
  rw [hn] at HV hcl hc ⊢
  obtain ⟨mm, hmm⟩ : ∃ mm, mm = min n 20 := ⟨_, rfl⟩
  have m1 : (if (20 : Int) < (n : Int) then (20 : Int) else (n : Int)) = (mm : Int) := by split <;> omega
  have s1 := fun W => cut_bytes ad n cap mm (by omega) (by omega) hnone W
  have hmc : (mm : Int) ≤ (cap : Int) := by omega
  have hn1 : (n : Int) ≤ 9223372036854775807 := by omega
  have hlm : (cs.take 20).length = mm := by rw [List.length_take]; omega
  have HB : Bx (Bytes w (.slice ad mm cap) (cs.take 20)) := Bx.mk (by
    have h := HV.out.take mm (by omega)
    have e : cs.take mm = cs.take 20 := by rw [hmm, ← hn, Nat.min_comm, ← List.take_take, List.take_length]
    rw [e] at h
    exact h)
  rw [hlm] at h16
  have HG : Bx ((mm : Int) = 16) := Bx.mk (by omega)
  clear hmm hn hnone hc hv hvp hpn hpl hTb hg HV hlm hr h16 hf htb ha1 ha2 ht1 ht2
  go_enter Tryd.func4, Tryd.ntmps4
  go_wp2_with fail
  refine HBa.out.mono ?_
  rintro e w1 ⟨p, vk, rfl, h1, h2, h3, h4, h5⟩
  have H1 := Bx.mk (And.intro h1 (And.intro h2 (And.intro h3 (And.intro (h4 p (.inr (Nat.le_refl _))) h5))))
  clear h1 h2 h3 h4 h5 HBa
  go_wp2_with fail
  refine (HFe.out w1 H1.out.2.2.1).mono ?_
  rintro e w2 ⟨vo, xs, rfl, h1, h2, h3⟩
  have H2 : Bx (CS w p (keyQ bs) vk vo xs 0 0 w2) := Bx.mk (CS.make H1.out.2.1 H1.out.2.2.1 H1.out.2.2.2.1 H1.out.1 H1.out.2.2.2.2 h2 h3)
  have HVl := Bx.mk h1
  clear h1 h2 h3 HFe H1
  go_wp2_with fail
  refine (HCh.out w2 p _ _ H2.out.below H2.out.bk (HB.out.later H2.out.below) (H2.out.parts HVl.out w2 (kb_refl _ _))).mono ?_
  rintro e w3 ⟨rfl, hk, hgr⟩
  have H3 := Bx.mk (H2.out.step hk hgr)
  clear hk hgr
  clear HCh H2
  go_wp2_with fail
  refine (HCo.out w3 p H3.out.bk).mono ?_
  rintro e w4 ⟨rfl, hb⟩
  have H4 := Bx.mk (H3.out.later hb)
  clear hb H3 HCo
  go_wp2_with fail
  refine (HRi.out w4).mono ?_
  rintro e w5 ⟨rfl, rfl⟩
  have hG := HG.out
  go_wp2_with fail
  refine (HMa.out w4).mono ?_
  rintro e w5 ⟨rfl, hb⟩
  have H5 := Bx.mk (H4.out.later hb)
  clear hb H4
  go_wp2_with fail
  refine (HFr.out w5 _ _ _ H5.out.key.1 (HB.out.later H5.out.below) (H5.out.parts HVl.out w5 (kb_refl _ _))).mono ?_
  rintro e w6 ⟨rfl, hb⟩
  have H4 := Bx.mk (H5.out.later hb)
  clear hb H5
  go_wp2_with fail
  refine (HKn.out w6 H4.out.below).mono ?_
  rintro e w7 ⟨rfl, hb⟩
  have H7 := Bx.mk (H4.out.later hb).below
  clear hb H4
  skip -- Md
  go_wp2
  go_ret
  exact ⟨rfl, H7.out⟩
theorem cchk_any (bs cs : List UInt8) (pss : List (List UInt8)) (v vc vp : Value) (a t : Int) (w : World) (hv : Bytes w v bs) (hl : bs.length ≤ 9223372036854775807) (hvc : Bytes w vc cs) (hcl : cs.length ≤ 9223372036854775807) (hvp : Parts w vp pss) (hpn : pss.length ≤ 9223372036854775807) (hpl : ∀ p ∈ pss, p.length ≤ 9223372036854775807) (hTb : Tab w) (hg : 0 < w.heap.size) :
    Calls Tryd.prog 4 #[v, vc, .int .i64 a, .int .i64 t, vp] w fun e w' => e = .returned (.bool true) ∧ Below w.heap.size w w' := by
  cases hr : rightQ a t with
  | false => exact cchk_a bs cs pss v vc vp a t w hv hl hvc hcl hvp hpn hpl hTb hg hr
  | true =>
    have h' : (0 ≤ a ∧ a < 65536 ∧ 0 ≤ t ∧ t ≤ 1073741824) := of_decide_eq_true hr
    obtain ⟨a, rfl⟩ := Int.eq_ofNat_of_zero_le h'.1
    obtain ⟨t, rfl⟩ := Int.eq_ofNat_of_zero_le h'.2.2.1
    by_cases h16 : (cs.take 20).length = 16
    · cases hf : freK (keyQ bs) (t / 64) a (cut3Q pss) (cs.take 20) with
      | true => exact cchk_c bs cs pss v vc vp a t w hv hl hvc hcl hvp hpn hpl hTb hg hr h16 hf
      | false => exact cchk_d bs cs pss v vc vp a t w hv hl hvc hcl hvp hpn hpl hTb hg hr h16 hf
    · exact cchk_b bs cs pss v vc vp a t w hv hl hvc hcl hvp hpn hpl hTb hg hr h16
end Go.Proofs.YtncbhnkhbohejaaDoor
namespace Go.Proofs.YtncbhnkhbohejaaDoor
open Go Go.ChangeShapes Go.WideShapes Go.ChangeAt Go.RowKit
theorem own : ownKnob Tryd.prog.godebug = none := by kernel_rfl
theorem laidOut : laidOutB Tryd.prog = true := by kernel_rfl
/-- A slice of bytes that came in. -/
def IsRow (w : World) (a : Option Addr) (len cap : Nat) (zs : List Int) : Prop :=
  (a = none ∧ len = 0 ∧ cap = 0 ∧ zs = []) ∨
  ∃ x, a = some x ∧ len ≤ cap ∧ cap ≤ maxLen ∧ zs.length = cap ∧ (∀ i, i < zs.length → w.cell? (x.add i) = some (.int .u8 (zs.getD i 0))) ∧ ∀ n ∈ zs, (Lit.int .u8 n).wf = true
theorem IsRow.bytes {w : World} {a : Option Addr} {len cap : Nat} {zs : List Int} (h : IsRow w a len cap zs) : ∃ bs, Bytes w (.slice a len cap) bs ∧ bs.length = len ∧ len ≤ 9223372036854775807 := by
  rcases h with ⟨rfl, rfl, rfl, rfl⟩ | ⟨x, rfl, hl, hm, hz, hc, hw⟩
  · exact ⟨[], ⟨none, 0, rfl, Nat.le_refl _, fun _ => rfl, fun h => by simp at h⟩, rfl, by omega⟩
  · have hm' : cap ≤ 9223372036854775807 := hm
    refine ⟨(zs.take len).map (fun z => UInt8.ofNat z.toNat), ⟨some x, cap, ?_, ?_, (fun h => by cases h), fun hp => ?_⟩, ?_, by omega⟩
    · rw [List.length_map, List.length_take, Nat.min_eq_left (by omega)]
    · rw [List.length_map, List.length_take]; omega
    · rw [List.length_map, List.length_take] at hp
      obtain ⟨b, off, rfl, hc'⟩ := ints_at hc (by omega)
      refine ⟨b, off, rfl, fun j hj => ?_⟩
      rw [List.length_map, List.length_take] at hj
      rw [hc' j (by omega)]
      congr 2
      have hjz : j < zs.length := by omega
      have hr : 0 ≤ zs[j] ∧ zs[j] ≤ 255 := bounds_u8 (hw _ (List.getElem_mem hjz))
      have e1 : zs.getD j 0 = zs[j] := by simp [hjz]
      have e2 : ((zs.take len).map (fun z => UInt8.ofNat z.toNat)).getD j 0 = UInt8.ofNat (zs[j]).toNat := by
        simp [hjz, show j < len by omega]
      rw [e1, e2]
      unfold ub
      rw [UInt8.toNat_ofNat']
      omega
    · rw [List.length_map, List.length_take]; omega
theorem open_bytes {H : Type} {enc : TypeId × Value → H} {W : World} {a : Option Addr} {len cap : Nat} {d : DataW H} {p : List MemPlace} (h : DataW.Trod enc Tryd.prog W 0 (fun _ => true) true 22 (.slice a len cap) d p) :
    ∃ bs, Bytes W (.slice a len cap) bs ∧ bs.length ≤ 9223372036854775807 := by
  obtain ⟨z0, w0⟩ : ∃ zs, IsRow W a len cap zs := by
    obtain ⟨fuel, hf⟩ := h
    rcases open_ints Tryd.underlying22 Tryd.underlying5 (by kernel_rfl) hf with ⟨hcs, _⟩ | ⟨x, l, c, zs, hcs, _, hl, hm, hz, _, hcell, hwz⟩
    · simp [Value.cells] at hcs
      obtain ⟨rfl, rfl, rfl⟩ := hcs
      exact ⟨[], .inl ⟨rfl, rfl, rfl, rfl⟩⟩
    · simp [Value.cells] at hcs
      obtain ⟨rfl, rfl, rfl⟩ := hcs
      exact ⟨zs, .inr ⟨_, rfl, hl, hm, by simpa using hz, hcell, hwz⟩⟩
  obtain ⟨bs, hb, hbl, hbm⟩ := w0.bytes
  exact ⟨bs, hb, by omega⟩
theorem open_parts {H : Type} {enc : TypeId × Value → H} {W : World} {a : Option Addr} {len cap : Nat} {d : DataW H} {p : List MemPlace} (h : DataW.Trod enc Tryd.prog W 0 (fun _ => true) true 23 (.slice a len cap) d p) :
    ∃ pss, Parts W (.slice a len cap) pss ∧ pss.length ≤ 9223372036854775807 ∧ ∀ q ∈ pss, q.length ≤ 9223372036854775807 := by
  obtain ⟨fuel, hf⟩ := h
  rcases Deep.open_int_rows Tryd.underlying23 Tryd.underlying22 Tryd.underlying5 (by kernel_rfl) (by kernel_rfl) hf with ⟨hcs, _⟩ | ⟨x, l, c, A, L, C, Z, hcs, _, hl, hm, _, hr⟩
  · simp [Value.cells] at hcs
    obtain ⟨rfl, rfl, rfl⟩ := hcs
    exact ⟨[], ⟨none, 0, rfl, fun h => by simp at h⟩, by simp, fun q hq => by simp at hq⟩
  · simp [Value.cells] at hcs
    obtain ⟨rfl, rfl, rfl⟩ := hcs
    have hm' : cap ≤ 9223372036854775807 := hm
    have hrow : ∀ r, r < len → ∃ bs, Bytes W (.slice (A r) (L r) (C r)) bs ∧ bs.length ≤ 9223372036854775807 := fun r hrl => by
      obtain ⟨hc, h1, h2, h3, h4, h5, h6⟩ := hr r (by omega)
      have hI : IsRow W (A r) (L r) (C r) (Z r) := by
        match hA : A r with
        | none =>
          have hC := h5 hA
          exact .inl ⟨rfl, by omega, hC, List.length_eq_zero_iff.1 (by omega)⟩
        | some y => exact .inr ⟨y, rfl, h1, h2, h3, fun i hi => (h6 y hA).2 i (by omega), h4⟩
      obtain ⟨bs, hb, hbl, hbm⟩ := hI.bytes
      exact ⟨bs, hb, by omega⟩
    obtain ⟨f, hfb⟩ := Deep.choose_lt hrow
    have hlen : ((List.range len).map f).length = len := by simp
    refine ⟨(List.range len).map f, ⟨some x, cap, by rw [hlen], fun hp => ?_⟩, by rw [hlen]; omega, fun q hq => ?_⟩
    · rw [hlen] at hp
      obtain ⟨b, off, spot⟩ := x
      have hspot : spot = none := by simpa [Addr.add] using World.cell?_spot (hr 0 (by omega)).1
      subst hspot
      refine ⟨b, off, rfl, fun j hj => ?_⟩
      rw [hlen] at hj
      refine ⟨_, by rw [← Go.WideShapes.add_plain]; exact (hr j (by omega)).1, ?_⟩
      have e : ((List.range len).map f).getD j [] = f j := by simp [hj]
      rw [e]
      exact (hfb j hj).1
    · obtain ⟨r, hr1, rfl⟩ := List.mem_map.1 hq
      exact (hfb r (List.mem_range.1 hr1)).2
end Go.Proofs.YtncbhnkhbohejaaDoor
namespace Go.Proofs.YtncbhnkhbohejaaDoor
open Go Go.ChangeShapes Go.WideShapes Go.ChangeAt Go.RowKit
theorem gTab : Tryd.prog.globalNamed "vigil/digest.table" = some 0 := by kernel_rfl
theorem gTabType : (Tryd.prog.globals[0]?).map (·.type) = some 38 := by kernel_rfl
theorem cellsTab : Tryd.prog.cellsOf 38 = 64 := by kernel_rfl
theorem cellsWord : Tryd.prog.cellsOf 37 = 1 := by kernel_rfl
theorem laid_is : (Rows.laid_vigil_digest_table : DataW Unit) = Lib.tabData .u32 (kTab.map uv) := by kernel_rfl
/-- The listed variable's cells hold the table. -/
theorem tab_of {W : World} (h : laidMet Tryd.prog [("vigil/digest.table", Rows.laid_vigil_digest_table)] W) : Tab W := by
  rw [laid_is] at h
  have t := Lib.tabIs_of_head (rest := []) gTab gTabType Tryd.underlying38 Tryd.underlying37 cellsWord cellsTab h
  intro i hi
  rw [t.cell gTab i (by simpa [kTab] using hi)]
  congr 2
  have hk : i < kTab.length := hi
  simp [hk]
/-- A world for the witness: the settled one, the table holding what its initialiser lays. -/
noncomputable def laidWorld (os : Os) : World :=
  { World.holding Tryd.prog os ⟨#[], #[], []⟩ with heap := (World.holding Tryd.prog os ⟨#[], #[], []⟩).heap.modify 0 fun
      | .cells _ t frozen => .cells (u32s kTab) t frozen
      | o => o }
end Go.Proofs.YtncbhnkhbohejaaDoor
namespace Go.Proofs.YtncbhnkhbohejaaDoor
open Go Go.ChangeShapes Go.WideShapes Go.ChangeAt Go.RowKit
end Go.Proofs.YtncbhnkhbohejaaDoor
