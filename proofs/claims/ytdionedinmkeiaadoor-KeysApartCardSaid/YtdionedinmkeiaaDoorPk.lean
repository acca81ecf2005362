/-
  The walk of KeysApart.
-/
import Derived.Test.YtdionedinmkeiaaDoorYb
import Derived.Test.YtdionedinmkeiaaDoorYd
import Derived.Test.YtdionedinmkeiaaDoorYe
namespace Go.Proofs.YtdionedinmkeiaaDoor
open Go Go.RowKit
theorem verifier_form (n : Int) : ∃ V : Nat, wrap64 (1 + wrap64 ((IntKind.u64.wrap n).tmod 65535)) = (V : Int) ∧ 1 ≤ V ∧ V ≤ 65535 := by
  have h0 : 0 ≤ IntKind.u64.wrap n := by simp [IntKind.wrap, IntKind.bits, IntKind.signed]; omega
  generalize IntKind.u64.wrap n = m at *
  have h1 : m.tmod 65535 = m % 65535 := Int.tmod_eq_emod_of_nonneg h0
  have h2 : ∀ k : Int, -9223372036854775808 ≤ k → k ≤ 9223372036854775807 → wrap64 k = k := fun k h1 h2 => by unfold wrap64; omega
  rw [h1, h2 (m % 65535) (by omega) (by omega), h2 _ (by omega) (by omega)]
  exact ⟨(1 + m % 65535).toNat, by omega, by omega, by omega⟩
theorem KS.add {w : World} {B : Nat} {rs : List (Nat × Obj)} {W : World} (h : KS w B rs W) {R : Nat} {o : Obj} (hr : W.heap[R]? = some o) : KS w B ((R, o) :: rs) W :=
  ⟨fun x hx => by rcases List.mem_cons.1 hx with rfl | hx; exact hr; exact h.rows x hx, h.below, h.le⟩
set_option maxRecDepth 100000 in
set_option maxHeartbeats 2000000 in
theorem apart_badc (m0 : List UInt8) (c d : Cl) (n n' : Int) (vm : Value) (w : World) (hm : Bytes w vm m0) (hml : m0.length ≤ 9223372036854775807) (hc : okC c = false) (hTab : Tab w) (hg : 0 < w.heap.size) :
    Calls Tryd.prog 5 #[vm, clV c, clV d, .int .i64 n, .int .i64 n'] w fun e w' => e = .returned (.bool true) ∧ Below w.heap.size w w' := by
  have HT : Bx (∀ W, Below w.heap.size w W → Tab W ∧ 0 < W.heap.size) := Bx.mk fun W hb => ⟨hTab.later hb hg, Nat.lt_of_lt_of_le hg hb.size⟩
  clear hTab hg
  have HCm := Bx.mk fun (W : World) (hW : Bytes W vm m0) => cut7_any m0 70 vm W hW hml (by omega)
  have HMl : Bx ((m0.take 70).length ≤ 70) := Bx.mk (by rw [List.length_take]; omega)
  have HV := Bx.mk hm
  obtain ⟨am, cm, rfl, -⟩ := hm
  generalize m0.take 70 = mk at *
  generalize m0.length = mn at *
  have HRi := Bx.mk fun (W : World) => cright_any c W
  have HRd := Bx.mk fun (W : World) => cright_any d W
  rw [hc] at HRi

  clear hml hc
  obtain ⟨i, r, x, q⟩ := c
  obtain ⟨i', r', x', q'⟩ := d
  unfold clV at *
  simp only at HRi HRd ⊢
  obtain ⟨B, hB⟩ : ∃ B, w.heap.size = B := ⟨_, rfl⟩
  have HB := Bx.mk hB
  have H0 := Bx.mk (((KS.start w B hB).new (.cells #[.int .i64 i, .int .i64 r, .int .i64 x, .int .i64 q] 24)).new (.cells #[.int .i64 i', .int .i64 r', .int .i64 x', .int .i64 q'] 24))
  rw [alloc_size, hB] at H0
  rw [hB] at HT ⊢
  go_enter Tryd.func5, Tryd.ntmps5
  go_upto_region 1 with fail
  generalize (w.alloc (.cells #[.int .i64 i, .int .i64 r, .int .i64 x, .int .i64 q] 24)).alloc (.cells #[.int .i64 i', .int .i64 r', .int .i64 x', .int .i64 q'] 24) = w0 at *
  have HM0 := Bx.mk (HV.out.later (by rw [HB.out]; exact H0.out.below))
  go_wp2_with fail
  refine (HCm.out w0 HM0.out).mono ?_
  rintro e w1 ⟨v1, rfl, hm1, rfl⟩
  have HM := Bx.mk (hm1 w0 HM0.out)
  obtain ⟨am, cm, hv1, -⟩ := HM.out
  subst hv1
  clear hm1 HCm HM0 HV
  obtain ⟨mn2, hmn2⟩ : ∃ mn2, mk.length = mn2 := ⟨_, rfl⟩
  have HMN := Bx.mk hmn2
  rw [hmn2] at HM ⊢
  clear hmn2
  obtain ⟨k0, k1, k2, k3⟩ := cells4 (H0.out.rows _ (.tail _ (.head _)))
  go_wp2_with fail
  clear k0 k1 k2 k3
  refine (HRi.out w0).mono ?_
  rintro e w2 ⟨rfl, hb⟩
  have H1 := Bx.mk (H0.out.later hb)
  clear hb H0
  go_wp2_with fail
  refine (known7_any w2 (HT.out w2 H1.out.below).1 (HT.out w2 H1.out.below).2).mono ?_
  rintro e w4 ⟨rfl, hb⟩
  have H2 := Bx.mk (H1.out.later hb)
  clear hb H1
  go_wp2
  go_ret
  exact ⟨rfl, H2.out.below⟩
set_option maxRecDepth 100000 in
set_option maxHeartbeats 2000000 in
theorem apart_badd (m0 : List UInt8) (c d : Cl) (n n' : Int) (vm : Value) (w : World) (hm : Bytes w vm m0) (hml : m0.length ≤ 9223372036854775807) (hc : okC c = true) (hd : okC d = false) (hTab : Tab w) (hg : 0 < w.heap.size) :
    Calls Tryd.prog 5 #[vm, clV c, clV d, .int .i64 n, .int .i64 n'] w fun e w' => e = .returned (.bool true) ∧ Below w.heap.size w w' := by
  have HT : Bx (∀ W, Below w.heap.size w W → Tab W ∧ 0 < W.heap.size) := Bx.mk fun W hb => ⟨hTab.later hb hg, Nat.lt_of_lt_of_le hg hb.size⟩
  clear hTab hg
  have HCm := Bx.mk fun (W : World) (hW : Bytes W vm m0) => cut7_any m0 70 vm W hW hml (by omega)
  have HMl : Bx ((m0.take 70).length ≤ 70) := Bx.mk (by rw [List.length_take]; omega)
  have HV := Bx.mk hm
  obtain ⟨am, cm, rfl, -⟩ := hm
  generalize m0.take 70 = mk at *
  generalize m0.length = mn at *
  have HRi := Bx.mk fun (W : World) => cright_any c W
  have HRd := Bx.mk fun (W : World) => cright_any d W
  rw [hc] at HRi
  rw [hd] at HRd
  clear hml hc hd
  obtain ⟨i, r, x, q⟩ := c
  obtain ⟨i', r', x', q'⟩ := d
  unfold clV at *
  simp only at HRi HRd ⊢
  obtain ⟨B, hB⟩ : ∃ B, w.heap.size = B := ⟨_, rfl⟩
  have HB := Bx.mk hB
  have H0 := Bx.mk (((KS.start w B hB).new (.cells #[.int .i64 i, .int .i64 r, .int .i64 x, .int .i64 q] 24)).new (.cells #[.int .i64 i', .int .i64 r', .int .i64 x', .int .i64 q'] 24))
  rw [alloc_size, hB] at H0
  rw [hB] at HT ⊢
  go_enter Tryd.func5, Tryd.ntmps5
  go_upto_region 1 with fail
  generalize (w.alloc (.cells #[.int .i64 i, .int .i64 r, .int .i64 x, .int .i64 q] 24)).alloc (.cells #[.int .i64 i', .int .i64 r', .int .i64 x', .int .i64 q'] 24) = w0 at *
  have HM0 := Bx.mk (HV.out.later (by rw [HB.out]; exact H0.out.below))
  go_wp2_with fail
  refine (HCm.out w0 HM0.out).mono ?_
  rintro e w1 ⟨v1, rfl, hm1, rfl⟩
  have HM := Bx.mk (hm1 w0 HM0.out)
  obtain ⟨am, cm, hv1, -⟩ := HM.out
  subst hv1
  clear hm1 HCm HM0 HV
  obtain ⟨mn2, hmn2⟩ : ∃ mn2, mk.length = mn2 := ⟨_, rfl⟩
  have HMN := Bx.mk hmn2
  rw [hmn2] at HM ⊢
  clear hmn2
  obtain ⟨k0, k1, k2, k3⟩ := cells4 (H0.out.rows _ (.tail _ (.head _)))
  go_wp2_with fail
  clear k0 k1 k2 k3
  refine (HRi.out w0).mono ?_
  rintro e w2 ⟨rfl, hb⟩
  have H1 := Bx.mk (H0.out.later hb)
  clear hb H0
  obtain ⟨k0, k1, k2, k3⟩ := cells4 (H1.out.rows _ (.head _))
  go_wp2_with fail
  clear k0 k1 k2 k3
  refine (HRd.out w2).mono ?_
  rintro e w3 ⟨rfl, hb⟩
  have H2 := Bx.mk (H1.out.later hb)
  clear hb H1
  go_wp2_with fail
  refine (known7_any w3 (HT.out w3 H2.out.below).1 (HT.out w3 H2.out.below).2).mono ?_
  rintro e w4 ⟨rfl, hb⟩
  have H3 := Bx.mk (H2.out.later hb)
  clear hb H2
  go_wp2
  go_ret
  exact ⟨rfl, H3.out.below⟩
set_option maxRecDepth 100000 in
set_option maxHeartbeats 4000000 in
theorem apart_eq (m0 : List UInt8) (c d : Cl) (n n' : Int) (vm : Value) (w : World) (hm : Bytes w vm m0) (hml : m0.length ≤ 9223372036854775807) (hc : okC c = true) (hd : okC d = true) (heq : wrap64 (1 + wrap64 ((IntKind.u64.wrap n).tmod 65535)) = wrap64 (1 + wrap64 ((IntKind.u64.wrap n').tmod 65535))) (hTab : Tab w) (hg : 0 < w.heap.size) :
    Calls Tryd.prog 5 #[vm, clV c, clV d, .int .i64 n, .int .i64 n'] w fun e w' => e = .returned (.bool true) ∧ Below w.heap.size w w' := by
  have HT : Bx (∀ W, Below w.heap.size w W → Tab W ∧ 0 < W.heap.size) := Bx.mk fun W hb => ⟨hTab.later hb hg, Nat.lt_of_lt_of_le hg hb.size⟩
  clear hTab hg
  have HCm := Bx.mk fun (W : World) (hW : Bytes W vm m0) => cut7_any m0 70 vm W hW hml (by omega)
  have HMl : Bx ((m0.take 70).length ≤ 70) := Bx.mk (by rw [List.length_take]; omega)
  have HV := Bx.mk hm
  obtain ⟨am, cm, rfl, -⟩ := hm
  generalize m0.take 70 = mk at *
  generalize m0.length = mn at *
  have HRi := Bx.mk fun (W : World) => cright_any c W
  have HRd := Bx.mk fun (W : World) => cright_any d W
  rw [hc] at HRi
  rw [hd] at HRd
  obtain ⟨V, hV, hV1, hV2⟩ := verifier_form n
  obtain ⟨V', hV', hV1', hV2'⟩ := verifier_form n'
  obtain rfl : V = V' := by rw [hV, hV'] at heq; omega
  have HVV := Bx.mk (And.intro hV hV')
  have HNw : Bx (∀ (W : World) v, Bytes W v mk → Calls Tryd.prog 7 #[v] W fun e w' => ∃ v', e = .returned v' ∧ KeyO w' W.heap.size v' mk ∧ Below W.heap.size W w') := Bx.mk fun W v hv => new_any mk v W hv (by have := HMl.out; omega)
  have HTo := Bx.mk fun (W : World) => cto_any c W
  have HTd := Bx.mk fun (W : World) => cto_any d W
  obtain ⟨z1, hz1⟩ : ∃ z, u8s (List.replicate 32 0) = z := ⟨_, rfl⟩
  obtain ⟨zt, hzt⟩ : ∃ z, u32s (List.replicate 72 0) = z := ⟨_, rfl⟩
  have hztv : ∀ W : World, (zeroValue 32).run Tryd.prog W = .ok (.agg zt) W := fun W => by rw [← hzt]; kernel_rfl
  obtain ⟨tbl, htb⟩ : ∃ tbl : List Value, u32s (kTab ++ hTab) = tbl.toArray := ⟨_, rfl⟩
  have HMake : Bx (∀ W : World, Calls Tryd.prog 8 #[] W fun e w' => e = .returned (.agg tbl.toArray) ∧ Below W.heap.size W w') := Bx.mk fun W => by rw [← htb]; exact make_any W
  have HTI : Bx (tbl.toArray.size = zt.size ∧ (Tryd.prog.info? 32).map (·.size) = some tbl.toArray.size ∧ tbl.toArray.all (·.oneCell') = true ∧ (Tryd.prog.info? 32).map (·.size) = some tbl.length) := Bx.mk ⟨by rw [← htb, ← hzt, u32s_size, u32s_size]; rfl, tbl_size3 htb, by rw [← htb]; exact one_u32s _, tbl_size3 htb⟩
  have HGc : Bx (∀ W v, Below w.heap.size w W → IsKey W v mk → Calls Tryd.prog 9 #[v, clV c, .int .i64 (V : Int)] W fun e w' => ∃ v', e = .returned (.tuple #[v', .int .i64 0]) ∧ KeyO w' W.heap.size v' (senK (secK mk c) V) ∧ Below W.heap.size W w') := Bx.mk fun W v hb hv => gra_ok mk c V v W hv (by have := HMl.out; omega) hc hV1 hV2 (HT.out W hb).1 (HT.out W hb).2
  have HGd : Bx (∀ W v, Below w.heap.size w W → IsKey W v mk → Calls Tryd.prog 9 #[v, clV d, .int .i64 (V : Int)] W fun e w' => ∃ v', e = .returned (.tuple #[v', .int .i64 0]) ∧ KeyO w' W.heap.size v' (senK (secK mk d) V) ∧ Below W.heap.size W w') := Bx.mk fun W v hb hv => gra_ok mk d V v W hv (by have := HMl.out; omega) hd hV1 hV2 (HT.out W hb).1 (HT.out W hb).2
  have HTk : Bx (∀ W v, Below w.heap.size w W → Bytes W v mk → Calls Tryd.prog 33 #[v, clV c] W fun e w' => e = .returned (.agg (tkC c (secK mk c))) ∧ Below W.heap.size W w') := Bx.mk fun W v hb hv => tok7_ok mk c v W hv (by have := HMl.out; omega) hc (HT.out W hb).1 (HT.out W hb).2
  have HNr : Bx (∀ W : World, Calls Tryd.prog 23 #[.agg (tkC c (secK mk c))] W fun e w' => ∃ R, e = .returned (.tuple #[.pointer (some ⟨R, 0, none⟩), .int .i64 0]) ∧ w'.heap[R]? = some (.cells (rgC (tkC c (secK mk c)).toList rg0) 85 (0, 0)) ∧ Below W.heap.size W w') := Bx.mk fun W => by
    refine (ring_new c (secK mk c) W (secK_length _ _)).mono ?_
    rintro e w' ⟨-, h2, h3⟩
    obtain ⟨R, h4, -, h5⟩ := h2 hc
    exact ⟨R, h4, h5, h3⟩
  have HRg : Bx (∀ W R, Below w.heap.size w W → W.heap[R]? = some (.cells (rgC (tkC c (secK mk c)).toList rg0) 85 (0, 0)) → Calls Tryd.prog 24 #[.pointer (some ⟨R, 0, none⟩), .int .i64 (V : Int)] W fun e w' => ∃ v', e = .returned (.tuple #[v', .int .i64 0]) ∧ KeyO w' W.heap.size v' (senK (secK mk c) V) ∧ Below W.heap.size W w') := Bx.mk fun W R hb hr => to_ok c (secK mk c) R rg0 V W (secK_length _ _) hr hV1 hV2 (HT.out W hb).1 (HT.out W hb).2
  have HRh : Bx (∀ W R, Below w.heap.size w W → W.heap[R]? = some (.cells (rgC (tkC c (secK mk c)).toList rg0) 85 (0, 0)) → Calls Tryd.prog 24 #[.pointer (some ⟨R, 0, none⟩), .int .i64 (V : Int)] W fun e w' => ∃ v', e = .returned (.tuple #[v', .int .i64 0]) ∧ KeyO w' W.heap.size v' (senK (secK mk c) V) ∧ Below W.heap.size W w') := Bx.mk fun W R hb hr => to_ok c (secK mk c) R rg0 V W (secK_length _ _) hr hV1 hV2 (HT.out W hb).1 (HT.out W hb).2
  have HRc : Bx (∀ W v, Bytes W v mk → Calls Tryd.prog 21 #[.agg tbl.toArray, v, clV c, .int .i64 (V : Int)] W fun e w' => e = .returned (.agg (u8s (senK (secK mk c) V))) ∧ Below W.heap.size W w') := Bx.mk fun W v hv => rgra_any tbl htb mk c V v W hv (by have := HMl.out; omega) hc hV2
  have HRe : Bx (∀ W v, Bytes W v mk → Calls Tryd.prog 21 #[.agg tbl.toArray, v, clV d, .int .i64 (V : Int)] W fun e w' => e = .returned (.agg (u8s (senK (secK mk d) V))) ∧ Below W.heap.size W w') := Bx.mk fun W v hv => rgra_any tbl htb mk d V v W hv (by have := HMl.out; omega) hd hV2
  have HVb := Bx.mk (And.intro (And.intro hV1 hV2) (And.intro hV1 hV2))
  have HL1 := senK_length (secK mk c) V
  have HL2 := senK_length (secK mk d) V
  have hsec := fun W : World => sec_eql _ _ HL1 HL2 W
  obtain ⟨ev, hev⟩ : ∃ ev : Bool, (senK (secK mk c) V == senK (secK mk d) V) = ev := ⟨_, rfl⟩
  have hev2 : decide (senK (secK mk c) V = senK (secK mk d) V) = ev := by rw [← hev, Bool.eq_iff_iff]; simp
  rw [hev] at hsec
  have HSab : Bx (∀ (W : World) va vb, Bytes W va (senK (secK mk c) V) → Bytes W vb (senK (secK mk d) V) → Calls Tryd.prog 14 #[va, vb] W fun e w' => e = .returned (.bool ev) ∧ ∃ n, w' = W.drewN n) := Bx.mk fun W va vb ha hb => by rw [← hev2]; exact same_any _ _ va vb W ha hb (by omega) (by omega)
  have HSaa : Bx (∀ (W : World) va vb, Bytes W va (senK (secK mk c) V) → Bytes W vb (senK (secK mk c) V) → Calls Tryd.prog 14 #[va, vb] W fun e w' => e = .returned (.bool true) ∧ ∃ n, w' = W.drewN n) := Bx.mk fun W va vb ha hb => by
    have h := same_any _ _ va vb W ha hb (by omega) (by omega)
    rw [decide_eq_true rfl] at h
    exact h
  have HKa : Bx (∀ W v, IsKey W v (senK (secK mk c) V) → Calls Tryd.prog 15 #[v] W fun e w' => ∃ v', e = .returned v' ∧ OwnB w' W.heap.size v' (senK (secK mk c) V) ∧ Below W.heap.size W w') := Bx.mk fun W v hv => kbytes_any _ v W hv (by omega)
  have HKb : Bx (∀ W v, IsKey W v (senK (secK mk d) V) → Calls Tryd.prog 15 #[v] W fun e w' => ∃ v', e = .returned v' ∧ OwnB w' W.heap.size v' (senK (secK mk d) V) ∧ Below W.heap.size W w') := Bx.mk fun W v hv => kbytes_any _ v W hv (by omega)
  have HL := Bx.mk (And.intro HL1 HL2)
  obtain ⟨kr, hkr⟩ : ∃ kr, Obj.cells (rgC (tkC c (secK mk c)).toList rg0) 85 (0, 0) = kr := ⟨_, rfl⟩
  rw [hkr] at HNr HRg HRh
  generalize senK (secK mk c) V = ka at *
  generalize senK (secK mk d) V = kb at *

  generalize tkC c (secK mk c) = tk at *
  clear hml hc hd hz1 hzt htb hV hV' hV1 hV2 hV1' hV2' HL1 HL2 hev hev2 hkr heq
  obtain ⟨i, r, x, q⟩ := c
  obtain ⟨i', r', x', q'⟩ := d
  unfold clV at *
  simp only at HRi HRd HTo HTd HGc HGd HTk HRc HRe ⊢
  obtain ⟨B, hB⟩ : ∃ B, w.heap.size = B := ⟨_, rfl⟩
  have HB := Bx.mk hB
  have H0 := Bx.mk (((KS.start w B hB).new (.cells #[.int .i64 i, .int .i64 r, .int .i64 x, .int .i64 q] 24)).new (.cells #[.int .i64 i', .int .i64 r', .int .i64 x', .int .i64 q'] 24))
  rw [alloc_size, hB] at H0
  rw [hB] at HT HGc HGd HTk HRg HRh ⊢
  go_enter Tryd.func5, Tryd.ntmps5
  go_upto_region 1 with fail
  generalize (w.alloc (.cells #[.int .i64 i, .int .i64 r, .int .i64 x, .int .i64 q] 24)).alloc (.cells #[.int .i64 i', .int .i64 r', .int .i64 x', .int .i64 q'] 24) = w0 at *
  have HM0 := Bx.mk (HV.out.later (by rw [HB.out]; exact H0.out.below))
  go_wp2_with fail
  refine (HCm.out w0 HM0.out).mono ?_
  rintro e w1 ⟨v1, rfl, hm1, rfl⟩
  have HM := Bx.mk (hm1 w0 HM0.out)
  obtain ⟨am, cm, hv1, -⟩ := HM.out
  subst hv1
  clear hm1 HCm HM0 HV
  obtain ⟨mn2, hmn2⟩ : ∃ mn2, mk.length = mn2 := ⟨_, rfl⟩
  have HMN := Bx.mk hmn2
  rw [hmn2] at HM ⊢
  clear hmn2
  obtain ⟨k0, k1, k2, k3⟩ := cells4 (H0.out.rows _ (.tail _ (.head _)))
  go_wp2_with fail
  clear k0 k1 k2 k3
  refine (HRi.out w0).mono ?_
  rintro e w2 ⟨rfl, hb⟩
  have H1 := Bx.mk (And.intro (H0.out.later hb) (HM.out.later hb))
  clear hb H0 HM
  obtain ⟨k0, k1, k2, k3⟩ := cells4 (H1.out.1.rows _ (.head _))
  go_wp2_with fail
  clear k0 k1 k2 k3
  refine (HRd.out w2).mono ?_
  rintro e w3 ⟨rfl, hb⟩
  have H2 := Bx.mk (And.intro (H1.out.1.later hb) (H1.out.2.later hb))
  clear hb H1
  go_wp2_with fail
  simp only [HVV.out.1, HVV.out.2]
  refine (HNw.out w3 _ H2.out.2).mono ?_
  rintro e w4 ⟨vk, rfl, hk4, hb⟩
  have H3 := Bx.mk (And.intro (H2.out.1.later hb) (And.intro (H2.out.2.later hb) hk4.key))
  clear hb hk4 H2
  go_wp2_with fail
  refine (HMake.out w4).mono ?_
  rintro e w5 ⟨rfl, hb⟩
  have H4 := Bx.mk (And.intro (H3.out.1.later hb) (And.intro (H3.out.2.1.later hb) (H3.out.2.2.later hb)))
  clear hb H3
  obtain ⟨D, hD⟩ : ∃ D, w5.heap.size = D := ⟨_, rfl⟩
  have HBD : Bx (B + 1 < D) := Bx.mk (by rw [← hD]; exact H4.out.1.lt (.head _))
  have H5 := Bx.mk (H4.out.1.new (.cells zt 32))
  rw [hD] at H5
  go_upto_region 7 with (refine wpList_store_new rfl 32 _ _ rfl D tbl.toArray zt _ (by rfl) (by rfl) (H5.out.rows _ (.head _)) HTI.out.1 HTI.out.2.1 HTI.out.2.2.1 ?_; intro w6 hw8 hr8; have hg8 := Bx.mk (kb_of hw8); have HR8 := Bx.mk hr8; clear hw8 hr8)
  have H6 := Bx.mk (And.intro (H5.out.set hg8.out HR8.out (by have := HBD.out; omega) (by intro y hy; have := HBD.out; simp at hy; rcases hy with rfl | rfl <;> (simp only; omega))) (And.intro (H4.out.2.1.later (below_of hD hg8.out)) (H4.out.2.2.later (below_of hD hg8.out))))
  clear H5 hg8 HR8 H4 hD
  obtain ⟨k0, k1, k2, k3⟩ := cells4 (H6.out.1.rows _ (.tail _ (.tail _ (.head _))))
  go_wp2_with fail
  clear k0 k1 k2 k3
  refine (HTo.out w6).mono ?_
  rintro e w7 ⟨rfl, hb⟩
  have H7 := Bx.mk (And.intro (H6.out.1.later hb) (And.intro (H6.out.2.1.later hb) (H6.out.2.2.later hb)))
  clear hb H6
  go_wp2_with fail
  refine (HGc.out w7 vk H7.out.1.below H7.out.2.2).mono ?_
  rintro e w8 ⟨va, rfl, hk8, hb⟩
  have H8 := Bx.mk (And.intro (H7.out.1.later hb) (And.intro (H7.out.2.1.later hb) (And.intro (H7.out.2.2.later hb) hk8.key)))
  clear hb hk8 H7
  obtain ⟨k0, k1, k2, k3⟩ := cells4 (H8.out.1.rows _ (.tail _ (.head _)))
  go_wp2_with fail
  clear k0 k1 k2 k3
  refine (HTd.out w8).mono ?_
  rintro e w9 ⟨rfl, hb⟩
  have H9 := Bx.mk (And.intro (H8.out.1.later hb) (And.intro (H8.out.2.1.later hb) (And.intro (H8.out.2.2.1.later hb) (H8.out.2.2.2.later hb))))
  clear hb H8
  go_wp2_with fail
  refine (HGd.out w9 vk H9.out.1.below H9.out.2.2.1).mono ?_
  rintro e w10 ⟨vb, rfl, hk10, hb⟩
  have H10 := Bx.mk (And.intro (H9.out.1.later hb) (And.intro (H9.out.2.1.later hb) (And.intro (H9.out.2.2.2.later hb) hk10.key)))
  clear hb hk10 H9
  obtain ⟨k0, k1, k2, k3⟩ := cells4 (H10.out.1.rows _ (.tail _ (.tail _ (.head _))))
  go_wp2_with fail
  clear k0 k1 k2 k3
  refine (HTk.out w10 _ H10.out.1.below H10.out.2.1).mono ?_
  rintro e w11 ⟨rfl, hb⟩
  have H11 := Bx.mk (And.intro (H10.out.1.later hb) (And.intro (H10.out.2.1.later hb) (And.intro (H10.out.2.2.1.later hb) (H10.out.2.2.2.later hb))))
  clear hb H10
  go_wp2_with fail
  refine (HNr.out w11).mono ?_
  rintro e w12 ⟨R, rfl, hr12, hb⟩
  have H12 := Bx.mk (And.intro ((H11.out.1.later hb).add hr12) (And.intro (H11.out.2.1.later hb) (And.intro (H11.out.2.2.1.later hb) (H11.out.2.2.2.later hb))))
  clear hb hr12 H11
  go_wp2_with fail
  refine (HRg.out w12 R H12.out.1.below (H12.out.1.rows _ (.head _))).mono ?_
  rintro e w13 ⟨vx, rfl, hk13, hb⟩
  have H13 := Bx.mk (And.intro (H12.out.1.later hb) (And.intro (H12.out.2.1.later hb) (And.intro (H12.out.2.2.1.later hb) (And.intro (H12.out.2.2.2.later hb) hk13.key))))
  clear hb hk13 H12
  go_wp2_with fail
  refine (HRh.out w13 R H13.out.1.below (H13.out.1.rows _ (.head _))).mono ?_
  rintro e w14 ⟨vy, rfl, hk14, hb⟩
  have H14 := Bx.mk (And.intro (H13.out.1.later hb) (And.intro (H13.out.2.1.later hb) (And.intro (H13.out.2.2.1.later hb) (And.intro (H13.out.2.2.2.1.later hb) (And.intro (H13.out.2.2.2.2.later hb) hk14.key)))))
  clear hb hk14 H13
  go_upto_region 12 with fail
  have hd14 : Below w14.heap.size w14 w14.drew := (Below.refl _ _).drew
  have R0 := Bx.mk (And.intro (H14.out.1.later hd14) (And.intro (H14.out.2.1.later hd14) (And.intro (H14.out.2.2.1.later hd14) (And.intro (H14.out.2.2.2.1.later hd14) (And.intro (H14.out.2.2.2.2.1.later hd14) (H14.out.2.2.2.2.2.later hd14))))))
  clear hd14 H14
  refine wp_region_noPanic ?_
  refine wp_region_held_drew (S := fun W => W.rangeAt D 0 tbl ∧ (W.rangeAt B 0 [.int .i64 i, .int .i64 r, .int .i64 x, .int .i64 q] ∧ W.rangeAt (B + 1) 0 [.int .i64 i', .int .i64 r', .int .i64 x', .int .i64 q'])) (by kernel_rfl) (⟨row_rng (R0.out.1.rows _ (.tail _ (.head _))), row_rng (l := [.int .i64 i, .int .i64 r, .int .i64 x, .int .i64 q]) (R0.out.1.rows _ (.tail _ (.tail _ (.tail _ (.head _))))), row_rng (l := [.int .i64 i', .int .i64 r', .int .i64 x', .int .i64 q']) (R0.out.1.rows _ (.tail _ (.tail _ (.head _))))⟩) (fun hHeld => ?_)
  generalize w14.drew = W0 at *
  refine stepL 0 (by kernel_rfl) rfl (fun K hK => ?_)
  go_simp
  refine (known7_any W0 (HT.out W0 R0.out.1.below).1 (HT.out W0 R0.out.1.below).2).mono ?_
  rintro e W1 ⟨rfl, hb⟩
  show K _ _
  have R1 := Bx.mk (And.intro (R0.out.1.later hb) (And.intro (R0.out.2.1.later hb) (And.intro (R0.out.2.2.1.later hb) (And.intro (R0.out.2.2.2.1.later hb) (And.intro (R0.out.2.2.2.2.1.later hb) (R0.out.2.2.2.2.2.later hb))))))
  clear hb R0
  refine hK.out _ _ ⟨row_rng (R1.out.1.rows _ (.tail _ (.head _))), row_rng (l := [.int .i64 i, .int .i64 r, .int .i64 x, .int .i64 q]) (R1.out.1.rows _ (.tail _ (.tail _ (.tail _ (.head _))))), row_rng (l := [.int .i64 i', .int .i64 r', .int .i64 x', .int .i64 q']) (R1.out.1.rows _ (.tail _ (.tail _ (.head _))))⟩ (fun hHeld => ?_)
  clear hK K
  try simp only [Act.put, List.setIfInBounds_toArray, List.set_cons_zero, List.set_cons_succ]
  refine takeL 1 (v := ?_) rfl (by kernel_rfl) (by kernel_rfl) (by kernel_rfl) (fun _ _ _ h => h) (Or.inl ⟨by rfl, ?_⟩) hHeld ?_
  rotate_left 1
  · (intro w hSw; go_simp; try with_reducible rfl)
  try simp only [Act.put, List.setIfInBounds_toArray, List.set_cons_zero, List.set_cons_succ]
  refine takeL 2 (v := ?_) rfl (by kernel_rfl) (by kernel_rfl) (by kernel_rfl) (fun _ _ _ h => h) (Or.inl ⟨by rfl, ?_⟩) hHeld ?_
  rotate_left 1
  · (intro w hSw; go_simp; try with_reducible rfl)
  try simp only [Act.put, List.setIfInBounds_toArray, List.set_cons_zero, List.set_cons_succ]
  refine takeL 3 (v := ?_) rfl (by kernel_rfl) (by kernel_rfl) (by kernel_rfl) (fun _ _ _ h => h) (Or.inl ⟨by rfl, ?_⟩) hHeld ?_
  rotate_left 1
  · (intro w hSw; go_simp; try with_reducible rfl)
  try simp only [Act.put, List.setIfInBounds_toArray, List.set_cons_zero, List.set_cons_succ]
  refine takeL 4 (v := ?_) rfl (by kernel_rfl) (by kernel_rfl) (by kernel_rfl) (fun _ _ _ h => h) (Or.inl ⟨by rfl, ?_⟩) hHeld ?_
  rotate_left 1
  · (intro w hSw; go_simp; try with_reducible rfl)
  try simp only [Act.put, List.setIfInBounds_toArray, List.set_cons_zero, List.set_cons_succ]
  refine takeL 5 (v := ?_) rfl (by kernel_rfl) (by kernel_rfl) (by kernel_rfl) (fun _ _ _ h => h) (Or.inl ⟨by rfl, ?_⟩) hHeld ?_
  rotate_left 1
  · (intro w hSw; go_simp; try with_reducible rfl)
  try simp only [Act.put, List.setIfInBounds_toArray, List.set_cons_zero, List.set_cons_succ]
  refine takeL 6 (v := ?_) rfl (by kernel_rfl) (by kernel_rfl) (by kernel_rfl) (fun _ _ _ h => h) (Or.inl ⟨by rfl, ?_⟩) hHeld ?_
  rotate_left 1
  · (intro w hSw; go_simp; try with_reducible rfl)
  try simp only [Act.put, List.setIfInBounds_toArray, List.set_cons_zero, List.set_cons_succ]
  refine takeL 7 (v := ?_) rfl (by kernel_rfl) (by kernel_rfl) (by kernel_rfl) (fun _ _ _ h => h) (Or.inl ⟨by rfl, ?_⟩) hHeld ?_
  rotate_left 1
  · (intro w hSw; go_simp; try with_reducible rfl)
  try simp only [Act.put, List.setIfInBounds_toArray, List.set_cons_zero, List.set_cons_succ]
  refine takeL 8 (v := ?_) rfl (by kernel_rfl) (by kernel_rfl) (by kernel_rfl) (fun _ _ _ h => h) (Or.inl ⟨by rfl, ?_⟩) hHeld ?_
  rotate_left 1
  · (intro w hSw; go_simp; try with_reducible rfl)
  try simp only [Act.put, List.setIfInBounds_toArray, List.set_cons_zero, List.set_cons_succ]
  refine takeL 9 (v := ?_) rfl (by kernel_rfl) (by kernel_rfl) (by kernel_rfl) (fun _ _ _ h => h) (Or.inl ⟨by rfl, ?_⟩) hHeld ?_
  rotate_left 1
  · (intro w hSw; go_simp; try with_reducible rfl)
  try simp only [Act.put, List.setIfInBounds_toArray, List.set_cons_zero, List.set_cons_succ]
  refine takeL 10 (v := ?_) rfl (by kernel_rfl) (by kernel_rfl) (by kernel_rfl) (fun _ _ _ h => h) (Or.inl ⟨by rfl, ?_⟩) hHeld ?_
  rotate_left 1
  · (intro w hSw; go_simp; try with_reducible rfl)
  try simp only [Act.put, List.setIfInBounds_toArray, List.set_cons_zero, List.set_cons_succ]
  refine takeL 12 (v := ?_) rfl (by kernel_rfl) (by kernel_rfl) (by kernel_rfl) (fun _ _ _ h => h) (Or.inl ⟨by rfl, ?_⟩) hHeld ?_
  rotate_left 1
  · (intro w hSw; go_simp; try with_reducible rfl)
  try simp only [Act.put, List.setIfInBounds_toArray, List.set_cons_zero, List.set_cons_succ]
  refine takeL 15 rfl (by kernel_rfl) (by kernel_rfl) (by kernel_rfl) (fun _ _ _ h => h) (yieldsIf_load_mid (by rfl) _ _ rfl _ _ rfl _ _ (fun w hSw => hSw.1) Tryd.underlying32 rfl HTI.out.2.2.2) hHeld ?_
  try simp only [Act.put, List.setIfInBounds_toArray, List.set_cons_zero, List.set_cons_succ]
  refine takeL 16 (v := ?_) rfl (by kernel_rfl) (by kernel_rfl) (by kernel_rfl) (fun _ _ _ h => h) (Or.inl ⟨by rfl, ?_⟩) hHeld ?_
  rotate_left 1
  · (intro w hSw; go_simp; try with_reducible rfl)
  try simp only [Act.put, List.setIfInBounds_toArray, List.set_cons_zero, List.set_cons_succ]
  refine takeL 17 rfl (by kernel_rfl) (by kernel_rfl) (by kernel_rfl) (fun _ _ _ h => h) (yieldsIf_load_mid (by rfl) _ _ rfl _ _ rfl _ _ (fun w hSw => hSw.2.1) Tryd.underlying24 rfl (by kernel_rfl)) hHeld ?_
  try simp only [Act.put, List.setIfInBounds_toArray, List.set_cons_zero, List.set_cons_succ]
  refine takeL 18 (v := ?_) rfl (by kernel_rfl) (by kernel_rfl) (by kernel_rfl) (fun _ _ _ h => h) (Or.inl ⟨by rfl, ?_⟩) hHeld ?_
  rotate_left 1
  · (intro w hSw; go_simp; try with_reducible rfl)
  try simp only [Act.put, List.setIfInBounds_toArray, List.set_cons_zero, List.set_cons_succ]
  refine takeL 20 rfl (by kernel_rfl) (by kernel_rfl) (by kernel_rfl) (fun _ _ _ h => h) (yieldsIf_load_mid (by rfl) _ _ rfl _ _ rfl _ _ (fun w hSw => hSw.1) Tryd.underlying32 rfl HTI.out.2.2.2) hHeld ?_
  try simp only [Act.put, List.setIfInBounds_toArray, List.set_cons_zero, List.set_cons_succ]
  refine takeL 21 (v := ?_) rfl (by kernel_rfl) (by kernel_rfl) (by kernel_rfl) (fun _ _ _ h => h) (Or.inl ⟨by rfl, ?_⟩) hHeld ?_
  rotate_left 1
  · (intro w hSw; go_simp; try with_reducible rfl)
  try simp only [Act.put, List.setIfInBounds_toArray, List.set_cons_zero, List.set_cons_succ]
  refine takeL 22 rfl (by kernel_rfl) (by kernel_rfl) (by kernel_rfl) (fun _ _ _ h => h) (yieldsIf_load_mid (by rfl) _ _ rfl _ _ rfl _ _ (fun w hSw => hSw.2.2) Tryd.underlying24 rfl (by kernel_rfl)) hHeld ?_
  try simp only [Act.put, List.setIfInBounds_toArray, List.set_cons_zero, List.set_cons_succ]
  refine takeL 23 (v := ?_) rfl (by kernel_rfl) (by kernel_rfl) (by kernel_rfl) (fun _ _ _ h => h) (Or.inl ⟨by rfl, ?_⟩) hHeld ?_
  rotate_left 1
  · (intro w hSw; go_simp; try with_reducible rfl)
  try simp only [Act.put, List.setIfInBounds_toArray, List.set_cons_zero, List.set_cons_succ]
  refine stepL 11 (by kernel_rfl) rfl (fun K hK => ?_)
  go_simp
  refine (HKa.out W1 va R1.out.2.2.1).mono ?_
  rintro e W2 ⟨u1, rfl, ho, hb⟩
  show K _ _
  have R2 := Bx.mk (And.intro (R1.out.1.later hb) (And.intro (R1.out.2.1.later hb) (And.intro (R1.out.2.2.1.later hb) (And.intro (R1.out.2.2.2.1.later hb) (And.intro (R1.out.2.2.2.2.1.later hb) (R1.out.2.2.2.2.2.later hb))))))
  have Bu1 := ho.bytes
  clear ho
  clear hb R1
  refine hK.out _ _ ⟨row_rng (R2.out.1.rows _ (.tail _ (.head _))), row_rng (l := [.int .i64 i, .int .i64 r, .int .i64 x, .int .i64 q]) (R2.out.1.rows _ (.tail _ (.tail _ (.tail _ (.head _))))), row_rng (l := [.int .i64 i', .int .i64 r', .int .i64 x', .int .i64 q']) (R2.out.1.rows _ (.tail _ (.tail _ (.head _))))⟩ (fun hHeld => ?_)
  clear hK K
  try simp only [Act.put, List.setIfInBounds_toArray, List.set_cons_zero, List.set_cons_succ]
  refine stepL 13 (by kernel_rfl) rfl (fun K hK => ?_)
  go_simp
  refine (HKb.out W2 vb R2.out.2.2.2.1).mono ?_
  rintro e W3 ⟨u2, rfl, ho, hb⟩
  show K _ _
  have R3 := Bx.mk (And.intro (R2.out.1.later hb) (And.intro (R2.out.2.1.later hb) (And.intro (R2.out.2.2.1.later hb) (And.intro (R2.out.2.2.2.1.later hb) (And.intro (R2.out.2.2.2.2.1.later hb) (R2.out.2.2.2.2.2.later hb))))))
  have Bu1 := Bu1.later hb
  have Bu2 := ho.bytes
  clear ho
  clear hb R2
  refine hK.out _ _ ⟨row_rng (R3.out.1.rows _ (.tail _ (.head _))), row_rng (l := [.int .i64 i, .int .i64 r, .int .i64 x, .int .i64 q]) (R3.out.1.rows _ (.tail _ (.tail _ (.tail _ (.head _))))), row_rng (l := [.int .i64 i', .int .i64 r', .int .i64 x', .int .i64 q']) (R3.out.1.rows _ (.tail _ (.tail _ (.head _))))⟩ (fun hHeld => ?_)
  clear hK K
  try simp only [Act.put, List.setIfInBounds_toArray, List.set_cons_zero, List.set_cons_succ]
  refine stepL 14 (by kernel_rfl) rfl (fun K hK => ?_)
  go_simp
  refine (HSab.out W3 _ _ Bu1 Bu2).mono ?_
  rintro e W4 ⟨rfl, hdd⟩
  show K _ _
  obtain ⟨nd, hnd⟩ := hdd
  have hb : Below W3.heap.size W3 W4 := by rw [hnd]; exact drewN_below _ _
  clear hnd
  have R4 := Bx.mk (And.intro (R3.out.1.later hb) (And.intro (R3.out.2.1.later hb) (And.intro (R3.out.2.2.1.later hb) (And.intro (R3.out.2.2.2.1.later hb) (And.intro (R3.out.2.2.2.2.1.later hb) (R3.out.2.2.2.2.2.later hb))))))
  clear hb R3
  refine hK.out _ _ ⟨row_rng (R4.out.1.rows _ (.tail _ (.head _))), row_rng (l := [.int .i64 i, .int .i64 r, .int .i64 x, .int .i64 q]) (R4.out.1.rows _ (.tail _ (.tail _ (.tail _ (.head _))))), row_rng (l := [.int .i64 i', .int .i64 r', .int .i64 x', .int .i64 q']) (R4.out.1.rows _ (.tail _ (.tail _ (.head _))))⟩ (fun hHeld => ?_)
  clear hK K
  try simp only [Act.put, List.setIfInBounds_toArray, List.set_cons_zero, List.set_cons_succ]
  refine stepL 19 (by kernel_rfl) rfl (fun K hK => ?_)
  go_simp
  refine (HRc.out W4 _ R4.out.2.1).mono ?_
  rintro e W5 ⟨rfl, hb⟩
  show K _ _
  have R5 := Bx.mk (And.intro (R4.out.1.later hb) (And.intro (R4.out.2.1.later hb) (And.intro (R4.out.2.2.1.later hb) (And.intro (R4.out.2.2.2.1.later hb) (And.intro (R4.out.2.2.2.2.1.later hb) (R4.out.2.2.2.2.2.later hb))))))
  clear hb R4
  refine hK.out _ _ ⟨row_rng (R5.out.1.rows _ (.tail _ (.head _))), row_rng (l := [.int .i64 i, .int .i64 r, .int .i64 x, .int .i64 q]) (R5.out.1.rows _ (.tail _ (.tail _ (.tail _ (.head _))))), row_rng (l := [.int .i64 i', .int .i64 r', .int .i64 x', .int .i64 q']) (R5.out.1.rows _ (.tail _ (.tail _ (.head _))))⟩ (fun hHeld => ?_)
  clear hK K
  try simp only [Act.put, List.setIfInBounds_toArray, List.set_cons_zero, List.set_cons_succ]
  refine stepL 24 (by kernel_rfl) rfl (fun K hK => ?_)
  go_simp
  refine (HRe.out W5 _ R5.out.2.1).mono ?_
  rintro e W6 ⟨rfl, hb⟩
  show K _ _
  have R6 := Bx.mk (And.intro (R5.out.1.later hb) (And.intro (R5.out.2.1.later hb) (And.intro (R5.out.2.2.1.later hb) (And.intro (R5.out.2.2.2.1.later hb) (And.intro (R5.out.2.2.2.2.1.later hb) (R5.out.2.2.2.2.2.later hb))))))
  clear hb R5
  refine hK.out _ _ ⟨row_rng (R6.out.1.rows _ (.tail _ (.head _))), row_rng (l := [.int .i64 i, .int .i64 r, .int .i64 x, .int .i64 q]) (R6.out.1.rows _ (.tail _ (.tail _ (.tail _ (.head _))))), row_rng (l := [.int .i64 i', .int .i64 r', .int .i64 x', .int .i64 q']) (R6.out.1.rows _ (.tail _ (.tail _ (.head _))))⟩ (fun hHeld => ?_)
  clear hK K
  try simp only [Act.put, List.setIfInBounds_toArray, List.set_cons_zero, List.set_cons_succ]
  refine takeL 25 (v := ?_) rfl (by kernel_rfl) (by kernel_rfl) (by kernel_rfl) (fun _ _ _ h => h) (Or.inl ⟨by rfl, ?_⟩) hHeld ?_
  rotate_left 1
  · (intro w hSw; have h25 := hsec w; go_simp; try with_reducible rfl)
  try simp only [Act.put, List.setIfInBounds_toArray, List.set_cons_zero, List.set_cons_succ]
  refine takeL 26 (v := ?_) rfl (by kernel_rfl) (by kernel_rfl) (by kernel_rfl) (fun _ _ _ h => h) (Or.inl ⟨by rfl, ?_⟩) hHeld ?_
  rotate_left 1
  · (intro w hSw; cases ev <;> (go_simp; try with_reducible rfl))
  try simp only [Act.put, List.setIfInBounds_toArray, List.set_cons_zero, List.set_cons_succ]
  refine takeL 27 (v := ?_) rfl (by kernel_rfl) (by kernel_rfl) (by kernel_rfl) (fun _ _ _ h => h) (Or.inl ⟨by rfl, ?_⟩) hHeld ?_
  rotate_left 1
  · (intro w hSw; go_simp; try with_reducible rfl)
  try simp only [Act.put, List.setIfInBounds_toArray, List.set_cons_zero, List.set_cons_succ]
  refine takeL 28 (v := ?_) rfl (by kernel_rfl) (by kernel_rfl) (by kernel_rfl) (fun _ _ _ h => h) (Or.inl ⟨by rfl, ?_⟩) hHeld ?_
  rotate_left 1
  · (intro w hSw; go_simp; try with_reducible rfl)
  try simp only [Act.put, List.setIfInBounds_toArray, List.set_cons_zero, List.set_cons_succ]
  refine takeL 29 (v := ?_) rfl (by kernel_rfl) (by kernel_rfl) (by kernel_rfl) (fun _ _ _ h => h) (Or.inl ⟨by rfl, ?_⟩) hHeld ?_
  rotate_left 1
  · (intro w hSw; go_simp; try with_reducible rfl)
  try simp only [Act.put, List.setIfInBounds_toArray, List.set_cons_zero, List.set_cons_succ]
  refine takeL 30 (v := ?_) rfl (by kernel_rfl) (by kernel_rfl) (by kernel_rfl) (fun _ _ _ h => h) (Or.inl ⟨by rfl, ?_⟩) hHeld ?_
  rotate_left 1
  · (intro w hSw; go_simp; try with_reducible rfl)
  try simp only [Act.put, List.setIfInBounds_toArray, List.set_cons_zero, List.set_cons_succ]
  refine takeL 31 (v := ?_) rfl (by kernel_rfl) (by kernel_rfl) (by kernel_rfl) (fun _ _ _ h => h) (Or.inl ⟨by rfl, ?_⟩) hHeld ?_
  rotate_left 1
  · (intro w hSw; go_simp; try with_reducible rfl)
  try simp only [Act.put, List.setIfInBounds_toArray, List.set_cons_zero, List.set_cons_succ]
  refine takeL 32 (v := ?_) rfl (by kernel_rfl) (by kernel_rfl) (by kernel_rfl) (fun _ _ _ h => h) (Or.inl ⟨by rfl, ?_⟩) hHeld ?_
  rotate_left 1
  · (intro w hSw; go_simp; try with_reducible rfl)
  try simp only [Act.put, List.setIfInBounds_toArray, List.set_cons_zero, List.set_cons_succ]
  refine takeL 33 (v := ?_) rfl (by kernel_rfl) (by kernel_rfl) (by kernel_rfl) (fun _ _ _ h => h) (Or.inl ⟨by rfl, ?_⟩) hHeld ?_
  rotate_left 1
  · (intro w hSw; go_simp; try with_reducible rfl)
  try simp only [Act.put, List.setIfInBounds_toArray, List.set_cons_zero, List.set_cons_succ]
  refine takeL 34 (v := ?_) rfl (by kernel_rfl) (by kernel_rfl) (by kernel_rfl) (fun _ _ _ h => h) (Or.inl ⟨by rfl, ?_⟩) hHeld ?_
  rotate_left 1
  · (intro w hSw; go_simp; try with_reducible rfl)
  try simp only [Act.put, List.setIfInBounds_toArray, List.set_cons_zero, List.set_cons_succ]
  refine takeL 35 (v := ?_) rfl (by kernel_rfl) (by kernel_rfl) (by kernel_rfl) (fun _ _ _ h => h) (Or.inl ⟨by rfl, ?_⟩) hHeld ?_
  rotate_left 1
  · (intro w hSw; go_simp; try with_reducible rfl)
  try simp only [Act.put, List.setIfInBounds_toArray, List.set_cons_zero, List.set_cons_succ]
  refine takeL 36 (v := ?_) rfl (by kernel_rfl) (by kernel_rfl) (by kernel_rfl) (fun _ _ _ h => h) (Or.inl ⟨by rfl, ?_⟩) hHeld ?_
  rotate_left 1
  · (intro w hSw; go_simp; try with_reducible rfl)
  try simp only [Act.put, List.setIfInBounds_toArray, List.set_cons_zero, List.set_cons_succ]
  refine takeL 37 (v := ?_) rfl (by kernel_rfl) (by kernel_rfl) (by kernel_rfl) (fun _ _ _ h => h) (Or.inl ⟨by rfl, ?_⟩) hHeld ?_
  rotate_left 1
  · (intro w hSw; go_simp; try with_reducible rfl)
  try simp only [Act.put, List.setIfInBounds_toArray, List.set_cons_zero, List.set_cons_succ]
  refine takeL 38 (v := ?_) rfl (by kernel_rfl) (by kernel_rfl) (by kernel_rfl) (fun _ _ _ h => h) (Or.inl ⟨by rfl, ?_⟩) hHeld ?_
  rotate_left 1
  · (intro w hSw; go_simp; try with_reducible rfl)
  try simp only [Act.put, List.setIfInBounds_toArray, List.set_cons_zero, List.set_cons_succ]
  refine takeL 39 (v := ?_) rfl (by kernel_rfl) (by kernel_rfl) (by kernel_rfl) (fun _ _ _ h => h) (Or.inl ⟨by rfl, ?_⟩) hHeld ?_
  rotate_left 1
  · (intro w hSw; go_simp; try with_reducible rfl)
  try simp only [Act.put, List.setIfInBounds_toArray, List.set_cons_zero, List.set_cons_succ]
  refine takeL 40 (v := ?_) rfl (by kernel_rfl) (by kernel_rfl) (by kernel_rfl) (fun _ _ _ h => h) (Or.inl ⟨by rfl, ?_⟩) hHeld ?_
  rotate_left 1
  · (intro w hSw; go_simp; try with_reducible rfl)
  try simp only [Act.put, List.setIfInBounds_toArray, List.set_cons_zero, List.set_cons_succ]
  refine takeL 41 (v := ?_) rfl (by kernel_rfl) (by kernel_rfl) (by kernel_rfl) (fun _ _ _ h => h) (Or.inl ⟨by rfl, ?_⟩) hHeld ?_
  rotate_left 1
  · (intro w hSw; go_simp; try with_reducible rfl)
  try simp only [Act.put, List.setIfInBounds_toArray, List.set_cons_zero, List.set_cons_succ]
  refine takeL 43 (v := ?_) rfl (by kernel_rfl) (by kernel_rfl) (by kernel_rfl) (fun _ _ _ h => h) (Or.inl ⟨by rfl, ?_⟩) hHeld ?_
  rotate_left 1
  · (intro w hSw; go_simp; try with_reducible rfl)
  try simp only [Act.put, List.setIfInBounds_toArray, List.set_cons_zero, List.set_cons_succ]
  refine stepL 42 (by kernel_rfl) rfl (fun K hK => ?_)
  go_simp
  refine (HKa.out W6 vx R6.out.2.2.2.2.1).mono ?_
  rintro e W7 ⟨u3, rfl, ho, hb⟩
  show K _ _
  have R7 := Bx.mk (And.intro (R6.out.1.later hb) (And.intro (R6.out.2.1.later hb) (And.intro (R6.out.2.2.1.later hb) (And.intro (R6.out.2.2.2.1.later hb) (And.intro (R6.out.2.2.2.2.1.later hb) (R6.out.2.2.2.2.2.later hb))))))
  have Bu3 := ho.bytes
  clear ho
  clear hb R6
  refine hK.out _ _ ⟨row_rng (R7.out.1.rows _ (.tail _ (.head _))), row_rng (l := [.int .i64 i, .int .i64 r, .int .i64 x, .int .i64 q]) (R7.out.1.rows _ (.tail _ (.tail _ (.tail _ (.head _))))), row_rng (l := [.int .i64 i', .int .i64 r', .int .i64 x', .int .i64 q']) (R7.out.1.rows _ (.tail _ (.tail _ (.head _))))⟩ (fun hHeld => ?_)
  clear hK K
  try simp only [Act.put, List.setIfInBounds_toArray, List.set_cons_zero, List.set_cons_succ]
  refine stepL 44 (by kernel_rfl) rfl (fun K hK => ?_)
  go_simp
  refine (HKa.out W7 va R7.out.2.2.1).mono ?_
  rintro e W8 ⟨u4, rfl, ho, hb⟩
  show K _ _
  have R8 := Bx.mk (And.intro (R7.out.1.later hb) (And.intro (R7.out.2.1.later hb) (And.intro (R7.out.2.2.1.later hb) (And.intro (R7.out.2.2.2.1.later hb) (And.intro (R7.out.2.2.2.2.1.later hb) (R7.out.2.2.2.2.2.later hb))))))
  have Bu3 := Bu3.later hb
  have Bu4 := ho.bytes
  clear ho
  clear hb R7
  refine hK.out _ _ ⟨row_rng (R8.out.1.rows _ (.tail _ (.head _))), row_rng (l := [.int .i64 i, .int .i64 r, .int .i64 x, .int .i64 q]) (R8.out.1.rows _ (.tail _ (.tail _ (.tail _ (.head _))))), row_rng (l := [.int .i64 i', .int .i64 r', .int .i64 x', .int .i64 q']) (R8.out.1.rows _ (.tail _ (.tail _ (.head _))))⟩ (fun hHeld => ?_)
  clear hK K
  try simp only [Act.put, List.setIfInBounds_toArray, List.set_cons_zero, List.set_cons_succ]
  refine stepL 45 (by kernel_rfl) rfl (fun K hK => ?_)
  go_simp
  refine (HSaa.out W8 _ _ Bu3 Bu4).mono ?_
  rintro e W9 ⟨rfl, hdd⟩
  show K _ _
  obtain ⟨nd, hnd⟩ := hdd
  have hb : Below W8.heap.size W8 W9 := by rw [hnd]; exact drewN_below _ _
  clear hnd
  have R9 := Bx.mk (And.intro (R8.out.1.later hb) (And.intro (R8.out.2.1.later hb) (And.intro (R8.out.2.2.1.later hb) (And.intro (R8.out.2.2.2.1.later hb) (And.intro (R8.out.2.2.2.2.1.later hb) (R8.out.2.2.2.2.2.later hb))))))
  clear hb R8
  refine hK.out _ _ ⟨row_rng (R9.out.1.rows _ (.tail _ (.head _))), row_rng (l := [.int .i64 i, .int .i64 r, .int .i64 x, .int .i64 q]) (R9.out.1.rows _ (.tail _ (.tail _ (.tail _ (.head _))))), row_rng (l := [.int .i64 i', .int .i64 r', .int .i64 x', .int .i64 q']) (R9.out.1.rows _ (.tail _ (.tail _ (.head _))))⟩ (fun hHeld => ?_)
  clear hK K
  try simp only [Act.put, List.setIfInBounds_toArray, List.set_cons_zero, List.set_cons_succ]
  refine takeL 46 (v := ?_) rfl (by kernel_rfl) (by kernel_rfl) (by kernel_rfl) (fun _ _ _ h => h) (Or.inl ⟨by rfl, ?_⟩) hHeld ?_
  rotate_left 1
  · (intro w hSw; go_simp; try with_reducible rfl)
  try simp only [Act.put, List.setIfInBounds_toArray, List.set_cons_zero, List.set_cons_succ]
  refine takeL 47 (v := ?_) rfl (by kernel_rfl) (by kernel_rfl) (by kernel_rfl) (fun _ _ _ h => h) (Or.inl ⟨by rfl, ?_⟩) hHeld ?_
  rotate_left 1
  · (intro w hSw; go_simp; try with_reducible rfl)
  try simp only [Act.put, List.setIfInBounds_toArray, List.set_cons_zero, List.set_cons_succ]
  refine takeL 48 (v := ?_) rfl (by kernel_rfl) (by kernel_rfl) (by kernel_rfl) (fun _ _ _ h => h) (Or.inl ⟨by rfl, ?_⟩) hHeld ?_
  rotate_left 1
  · (intro w hSw; go_simp; try with_reducible rfl)
  try simp only [Act.put, List.setIfInBounds_toArray, List.set_cons_zero, List.set_cons_succ]
  refine takeL 49 (v := ?_) rfl (by kernel_rfl) (by kernel_rfl) (by kernel_rfl) (fun _ _ _ h => h) (Or.inl ⟨by rfl, ?_⟩) hHeld ?_
  rotate_left 1
  · (intro w hSw; go_simp; try with_reducible rfl)
  try simp only [Act.put, List.setIfInBounds_toArray, List.set_cons_zero, List.set_cons_succ]
  refine takeL 50 (v := ?_) rfl (by kernel_rfl) (by kernel_rfl) (by kernel_rfl) (fun _ _ _ h => h) (Or.inl ⟨by rfl, ?_⟩) hHeld ?_
  rotate_left 1
  · (intro w hSw; go_simp; try with_reducible rfl)
  try simp only [Act.put, List.setIfInBounds_toArray, List.set_cons_zero, List.set_cons_succ]
  refine takeL 51 (v := ?_) rfl (by kernel_rfl) (by kernel_rfl) (by kernel_rfl) (fun _ _ _ h => h) (Or.inl ⟨by rfl, ?_⟩) hHeld ?_
  rotate_left 1
  · (intro w hSw; go_simp; try with_reducible rfl)
  try simp only [Act.put, List.setIfInBounds_toArray, List.set_cons_zero, List.set_cons_succ]
  refine takeL 52 (v := ?_) rfl (by kernel_rfl) (by kernel_rfl) (by kernel_rfl) (fun _ _ _ h => h) (Or.inl ⟨by rfl, ?_⟩) hHeld ?_
  rotate_left 1
  · (intro w hSw; go_simp; try with_reducible rfl)
  try simp only [Act.put, List.setIfInBounds_toArray, List.set_cons_zero, List.set_cons_succ]
  refine takeL 54 (v := ?_) rfl (by kernel_rfl) (by kernel_rfl) (by kernel_rfl) (fun _ _ _ h => h) (Or.inl ⟨by rfl, ?_⟩) hHeld ?_
  rotate_left 1
  · (intro w hSw; go_simp; try with_reducible rfl)
  try simp only [Act.put, List.setIfInBounds_toArray, List.set_cons_zero, List.set_cons_succ]
  refine stepL 53 (by kernel_rfl) rfl (fun K hK => ?_)
  go_simp
  refine (HKa.out W9 vx R9.out.2.2.2.2.1).mono ?_
  rintro e W10 ⟨u5, rfl, ho, hb⟩
  show K _ _
  have R10 := Bx.mk (And.intro (R9.out.1.later hb) (And.intro (R9.out.2.1.later hb) (And.intro (R9.out.2.2.1.later hb) (And.intro (R9.out.2.2.2.1.later hb) (And.intro (R9.out.2.2.2.2.1.later hb) (R9.out.2.2.2.2.2.later hb))))))
  have Bu5 := ho.bytes
  clear ho
  clear hb R9
  refine hK.out _ _ ⟨row_rng (R10.out.1.rows _ (.tail _ (.head _))), row_rng (l := [.int .i64 i, .int .i64 r, .int .i64 x, .int .i64 q]) (R10.out.1.rows _ (.tail _ (.tail _ (.tail _ (.head _))))), row_rng (l := [.int .i64 i', .int .i64 r', .int .i64 x', .int .i64 q']) (R10.out.1.rows _ (.tail _ (.tail _ (.head _))))⟩ (fun hHeld => ?_)
  clear hK K
  try simp only [Act.put, List.setIfInBounds_toArray, List.set_cons_zero, List.set_cons_succ]
  refine stepL 55 (by kernel_rfl) rfl (fun K hK => ?_)
  go_simp
  refine (HKa.out W10 vy R10.out.2.2.2.2.2).mono ?_
  rintro e W11 ⟨u6, rfl, ho, hb⟩
  show K _ _
  have R11 := Bx.mk (And.intro (R10.out.1.later hb) (And.intro (R10.out.2.1.later hb) (And.intro (R10.out.2.2.1.later hb) (And.intro (R10.out.2.2.2.1.later hb) (And.intro (R10.out.2.2.2.2.1.later hb) (R10.out.2.2.2.2.2.later hb))))))
  have Bu5 := Bu5.later hb
  have Bu6 := ho.bytes
  clear ho
  clear hb R10
  refine hK.out _ _ ⟨row_rng (R11.out.1.rows _ (.tail _ (.head _))), row_rng (l := [.int .i64 i, .int .i64 r, .int .i64 x, .int .i64 q]) (R11.out.1.rows _ (.tail _ (.tail _ (.tail _ (.head _))))), row_rng (l := [.int .i64 i', .int .i64 r', .int .i64 x', .int .i64 q']) (R11.out.1.rows _ (.tail _ (.tail _ (.head _))))⟩ (fun hHeld => ?_)
  clear hK K
  try simp only [Act.put, List.setIfInBounds_toArray, List.set_cons_zero, List.set_cons_succ]
  refine stepL 56 (by kernel_rfl) rfl (fun K hK => ?_)
  go_simp
  refine (HSaa.out W11 _ _ Bu5 Bu6).mono ?_
  rintro e W12 ⟨rfl, hdd⟩
  show K _ _
  obtain ⟨nd, hnd⟩ := hdd
  have hb : Below W11.heap.size W11 W12 := by rw [hnd]; exact drewN_below _ _
  clear hnd
  have R12 := Bx.mk (And.intro (R11.out.1.later hb) (And.intro (R11.out.2.1.later hb) (And.intro (R11.out.2.2.1.later hb) (And.intro (R11.out.2.2.2.1.later hb) (And.intro (R11.out.2.2.2.2.1.later hb) (R11.out.2.2.2.2.2.later hb))))))
  clear hb R11
  refine hK.out _ _ ⟨row_rng (R12.out.1.rows _ (.tail _ (.head _))), row_rng (l := [.int .i64 i, .int .i64 r, .int .i64 x, .int .i64 q]) (R12.out.1.rows _ (.tail _ (.tail _ (.tail _ (.head _))))), row_rng (l := [.int .i64 i', .int .i64 r', .int .i64 x', .int .i64 q']) (R12.out.1.rows _ (.tail _ (.tail _ (.head _))))⟩ (fun hHeld => ?_)
  clear hK K
  try simp only [Act.put, List.setIfInBounds_toArray, List.set_cons_zero, List.set_cons_succ]
  refine takeL 57 (v := ?_) rfl (by kernel_rfl) (by kernel_rfl) (by kernel_rfl) (fun _ _ _ h => h) (Or.inl ⟨by rfl, ?_⟩) hHeld ?_
  rotate_left 1
  · (intro w hSw; go_simp; try with_reducible rfl)
  try simp only [Act.put, List.setIfInBounds_toArray, List.set_cons_zero, List.set_cons_succ]
  refine takeL 58 (v := ?_) rfl (by kernel_rfl) (by kernel_rfl) (by kernel_rfl) (fun _ _ _ h => h) (Or.inl ⟨by rfl, ?_⟩) hHeld ?_
  rotate_left 1
  · (intro w hSw; go_simp; try with_reducible rfl)
  try simp only [Act.put, List.setIfInBounds_toArray, List.set_cons_zero, List.set_cons_succ]
  refine takeL 59 (v := ?_) rfl (by kernel_rfl) (by kernel_rfl) (by kernel_rfl) (fun _ _ _ h => h) (Or.inl ⟨by rfl, ?_⟩) hHeld ?_
  rotate_left 1
  · (intro w hSw; go_simp; try with_reducible rfl)
  try simp only [Act.put, List.setIfInBounds_toArray, List.set_cons_zero, List.set_cons_succ]
  refine wpAnyH_done (by kernel_rfl) ?_ _
  refine NoPanic.normal ?_
  clear hHeld
  go_wp2
  go_ret
  exact ⟨rfl, R12.out.1.below⟩
set_option maxRecDepth 100000 in
set_option maxHeartbeats 4000000 in
theorem apart_ne (m0 : List UInt8) (c d : Cl) (n n' : Int) (vm : Value) (w : World) (hm : Bytes w vm m0) (hml : m0.length ≤ 9223372036854775807) (hc : okC c = true) (hd : okC d = true) (hne : ¬ wrap64 (1 + wrap64 ((IntKind.u64.wrap n).tmod 65535)) = wrap64 (1 + wrap64 ((IntKind.u64.wrap n').tmod 65535))) (hTab : Tab w) (hg : 0 < w.heap.size) :
    Calls Tryd.prog 5 #[vm, clV c, clV d, .int .i64 n, .int .i64 n'] w fun e w' => e = .returned (.bool true) ∧ Below w.heap.size w w' := by
  have HT : Bx (∀ W, Below w.heap.size w W → Tab W ∧ 0 < W.heap.size) := Bx.mk fun W hb => ⟨hTab.later hb hg, Nat.lt_of_lt_of_le hg hb.size⟩
  clear hTab hg
  have HCm := Bx.mk fun (W : World) (hW : Bytes W vm m0) => cut7_any m0 70 vm W hW hml (by omega)
  have HMl : Bx ((m0.take 70).length ≤ 70) := Bx.mk (by rw [List.length_take]; omega)
  have HV := Bx.mk hm
  obtain ⟨am, cm, rfl, -⟩ := hm
  generalize m0.take 70 = mk at *
  generalize m0.length = mn at *
  have HRi := Bx.mk fun (W : World) => cright_any c W
  have HRd := Bx.mk fun (W : World) => cright_any d W
  rw [hc] at HRi
  rw [hd] at HRd
  obtain ⟨V, hV, hV1, hV2⟩ := verifier_form n
  obtain ⟨V', hV', hV1', hV2'⟩ := verifier_form n'
  have HNE : Bx (¬ V = V') := Bx.mk (fun e => hne (by rw [hV, hV', e]))
  clear hne
  have HVV := Bx.mk (And.intro hV hV')
  have HNw : Bx (∀ (W : World) v, Bytes W v mk → Calls Tryd.prog 7 #[v] W fun e w' => ∃ v', e = .returned v' ∧ KeyO w' W.heap.size v' mk ∧ Below W.heap.size W w') := Bx.mk fun W v hv => new_any mk v W hv (by have := HMl.out; omega)
  have HTo := Bx.mk fun (W : World) => cto_any c W
  have HTd := Bx.mk fun (W : World) => cto_any d W
  obtain ⟨z1, hz1⟩ : ∃ z, u8s (List.replicate 32 0) = z := ⟨_, rfl⟩
  obtain ⟨zt, hzt⟩ : ∃ z, u32s (List.replicate 72 0) = z := ⟨_, rfl⟩
  have hztv : ∀ W : World, (zeroValue 32).run Tryd.prog W = .ok (.agg zt) W := fun W => by rw [← hzt]; kernel_rfl
  obtain ⟨tbl, htb⟩ : ∃ tbl : List Value, u32s (kTab ++ hTab) = tbl.toArray := ⟨_, rfl⟩
  have HMake : Bx (∀ W : World, Calls Tryd.prog 8 #[] W fun e w' => e = .returned (.agg tbl.toArray) ∧ Below W.heap.size W w') := Bx.mk fun W => by rw [← htb]; exact make_any W
  have HTI : Bx (tbl.toArray.size = zt.size ∧ (Tryd.prog.info? 32).map (·.size) = some tbl.toArray.size ∧ tbl.toArray.all (·.oneCell') = true ∧ (Tryd.prog.info? 32).map (·.size) = some tbl.length) := Bx.mk ⟨by rw [← htb, ← hzt, u32s_size, u32s_size]; rfl, tbl_size3 htb, by rw [← htb]; exact one_u32s _, tbl_size3 htb⟩
  have HGc : Bx (∀ W v, Below w.heap.size w W → IsKey W v mk → Calls Tryd.prog 9 #[v, clV c, .int .i64 (V : Int)] W fun e w' => ∃ v', e = .returned (.tuple #[v', .int .i64 0]) ∧ KeyO w' W.heap.size v' (senK (secK mk c) V) ∧ Below W.heap.size W w') := Bx.mk fun W v hb hv => gra_ok mk c V v W hv (by have := HMl.out; omega) hc hV1 hV2 (HT.out W hb).1 (HT.out W hb).2
  have HGd : Bx (∀ W v, Below w.heap.size w W → IsKey W v mk → Calls Tryd.prog 9 #[v, clV d, .int .i64 (V' : Int)] W fun e w' => ∃ v', e = .returned (.tuple #[v', .int .i64 0]) ∧ KeyO w' W.heap.size v' (senK (secK mk d) V') ∧ Below W.heap.size W w') := Bx.mk fun W v hb hv => gra_ok mk d V' v W hv (by have := HMl.out; omega) hd hV1' hV2' (HT.out W hb).1 (HT.out W hb).2
  have HTk : Bx (∀ W v, Below w.heap.size w W → Bytes W v mk → Calls Tryd.prog 33 #[v, clV c] W fun e w' => e = .returned (.agg (tkC c (secK mk c))) ∧ Below W.heap.size W w') := Bx.mk fun W v hb hv => tok7_ok mk c v W hv (by have := HMl.out; omega) hc (HT.out W hb).1 (HT.out W hb).2
  have HNr : Bx (∀ W : World, Calls Tryd.prog 23 #[.agg (tkC c (secK mk c))] W fun e w' => ∃ R, e = .returned (.tuple #[.pointer (some ⟨R, 0, none⟩), .int .i64 0]) ∧ w'.heap[R]? = some (.cells (rgC (tkC c (secK mk c)).toList rg0) 85 (0, 0)) ∧ Below W.heap.size W w') := Bx.mk fun W => by
    refine (ring_new c (secK mk c) W (secK_length _ _)).mono ?_
    rintro e w' ⟨-, h2, h3⟩
    obtain ⟨R, h4, -, h5⟩ := h2 hc
    exact ⟨R, h4, h5, h3⟩
  have HRg : Bx (∀ W R, Below w.heap.size w W → W.heap[R]? = some (.cells (rgC (tkC c (secK mk c)).toList rg0) 85 (0, 0)) → Calls Tryd.prog 24 #[.pointer (some ⟨R, 0, none⟩), .int .i64 (V : Int)] W fun e w' => ∃ v', e = .returned (.tuple #[v', .int .i64 0]) ∧ KeyO w' W.heap.size v' (senK (secK mk c) V) ∧ Below W.heap.size W w') := Bx.mk fun W R hb hr => to_ok c (secK mk c) R rg0 V W (secK_length _ _) hr hV1 hV2 (HT.out W hb).1 (HT.out W hb).2
  have HRh : Bx (∀ W R, Below w.heap.size w W → W.heap[R]? = some (.cells (rgC (tkC c (secK mk c)).toList rg0) 85 (0, 0)) → Calls Tryd.prog 24 #[.pointer (some ⟨R, 0, none⟩), .int .i64 (V' : Int)] W fun e w' => ∃ v', e = .returned (.tuple #[v', .int .i64 0]) ∧ KeyO w' W.heap.size v' (senK (secK mk c) V') ∧ Below W.heap.size W w') := Bx.mk fun W R hb hr => to_ok c (secK mk c) R rg0 V' W (secK_length _ _) hr hV1' hV2' (HT.out W hb).1 (HT.out W hb).2
  have HRc : Bx (∀ W v, Bytes W v mk → Calls Tryd.prog 21 #[.agg tbl.toArray, v, clV c, .int .i64 (V : Int)] W fun e w' => e = .returned (.agg (u8s (senK (secK mk c) V))) ∧ Below W.heap.size W w') := Bx.mk fun W v hv => rgra_any tbl htb mk c V v W hv (by have := HMl.out; omega) hc hV2
  have HRe : Bx (∀ W v, Bytes W v mk → Calls Tryd.prog 21 #[.agg tbl.toArray, v, clV d, .int .i64 (V' : Int)] W fun e w' => e = .returned (.agg (u8s (senK (secK mk d) V'))) ∧ Below W.heap.size W w') := Bx.mk fun W v hv => rgra_any tbl htb mk d V' v W hv (by have := HMl.out; omega) hd hV2'
  have HVb := Bx.mk (And.intro (And.intro hV1 hV2) (And.intro hV1' hV2'))
  have HL1 := senK_length (secK mk c) V
  have HL2 := senK_length (secK mk d) V'
  have hsec := fun W : World => sec_eql _ _ HL1 HL2 W
  obtain ⟨ev, hev⟩ : ∃ ev : Bool, (senK (secK mk c) V == senK (secK mk d) V') = ev := ⟨_, rfl⟩
  have hev2 : decide (senK (secK mk c) V = senK (secK mk d) V') = ev := by rw [← hev, Bool.eq_iff_iff]; simp
  rw [hev] at hsec
  have HSab : Bx (∀ (W : World) va vb, Bytes W va (senK (secK mk c) V) → Bytes W vb (senK (secK mk d) V') → Calls Tryd.prog 14 #[va, vb] W fun e w' => e = .returned (.bool ev) ∧ ∃ n, w' = W.drewN n) := Bx.mk fun W va vb ha hb => by rw [← hev2]; exact same_any _ _ va vb W ha hb (by omega) (by omega)
  have HSaa : Bx (∀ (W : World) va vb, Bytes W va (senK (secK mk c) V) → Bytes W vb (senK (secK mk c) V) → Calls Tryd.prog 14 #[va, vb] W fun e w' => e = .returned (.bool true) ∧ ∃ n, w' = W.drewN n) := Bx.mk fun W va vb ha hb => by
    have h := same_any _ _ va vb W ha hb (by omega) (by omega)
    rw [decide_eq_true rfl] at h
    exact h
  have HKa : Bx (∀ W v, IsKey W v (senK (secK mk c) V) → Calls Tryd.prog 15 #[v] W fun e w' => ∃ v', e = .returned v' ∧ OwnB w' W.heap.size v' (senK (secK mk c) V) ∧ Below W.heap.size W w') := Bx.mk fun W v hv => kbytes_any _ v W hv (by omega)
  have HKb : Bx (∀ W v, IsKey W v (senK (secK mk d) V') → Calls Tryd.prog 15 #[v] W fun e w' => ∃ v', e = .returned v' ∧ OwnB w' W.heap.size v' (senK (secK mk d) V') ∧ Below W.heap.size W w') := Bx.mk fun W v hv => kbytes_any _ v W hv (by omega)
  have HL := Bx.mk (And.intro HL1 HL2)
  obtain ⟨kr, hkr⟩ : ∃ kr, Obj.cells (rgC (tkC c (secK mk c)).toList rg0) 85 (0, 0) = kr := ⟨_, rfl⟩
  rw [hkr] at HNr HRg HRh
  generalize senK (secK mk c) V = ka at *
  generalize senK (secK mk d) V' = kb at *
  generalize senK (secK mk c) V' = kc at *
  generalize tkC c (secK mk c) = tk at *
  clear hml hc hd hz1 hzt htb hV hV' hV1 hV2 hV1' hV2' HL1 HL2 hev hev2 hkr
  obtain ⟨i, r, x, q⟩ := c
  obtain ⟨i', r', x', q'⟩ := d
  unfold clV at *
  simp only at HRi HRd HTo HTd HGc HGd HTk HRc HRe ⊢
  obtain ⟨B, hB⟩ : ∃ B, w.heap.size = B := ⟨_, rfl⟩
  have HB := Bx.mk hB
  have H0 := Bx.mk (((KS.start w B hB).new (.cells #[.int .i64 i, .int .i64 r, .int .i64 x, .int .i64 q] 24)).new (.cells #[.int .i64 i', .int .i64 r', .int .i64 x', .int .i64 q'] 24))
  rw [alloc_size, hB] at H0
  rw [hB] at HT HGc HGd HTk HRg HRh ⊢
  go_enter Tryd.func5, Tryd.ntmps5
  go_upto_region 1 with fail
  generalize (w.alloc (.cells #[.int .i64 i, .int .i64 r, .int .i64 x, .int .i64 q] 24)).alloc (.cells #[.int .i64 i', .int .i64 r', .int .i64 x', .int .i64 q'] 24) = w0 at *
  have HM0 := Bx.mk (HV.out.later (by rw [HB.out]; exact H0.out.below))
  go_wp2_with fail
  refine (HCm.out w0 HM0.out).mono ?_
  rintro e w1 ⟨v1, rfl, hm1, rfl⟩
  have HM := Bx.mk (hm1 w0 HM0.out)
  obtain ⟨am, cm, hv1, -⟩ := HM.out
  subst hv1
  clear hm1 HCm HM0 HV
  obtain ⟨mn2, hmn2⟩ : ∃ mn2, mk.length = mn2 := ⟨_, rfl⟩
  have HMN := Bx.mk hmn2
  rw [hmn2] at HM ⊢
  clear hmn2
  obtain ⟨k0, k1, k2, k3⟩ := cells4 (H0.out.rows _ (.tail _ (.head _)))
  go_wp2_with fail
  clear k0 k1 k2 k3
  refine (HRi.out w0).mono ?_
  rintro e w2 ⟨rfl, hb⟩
  have H1 := Bx.mk (And.intro (H0.out.later hb) (HM.out.later hb))
  clear hb H0 HM
  obtain ⟨k0, k1, k2, k3⟩ := cells4 (H1.out.1.rows _ (.head _))
  go_wp2_with fail
  clear k0 k1 k2 k3
  refine (HRd.out w2).mono ?_
  rintro e w3 ⟨rfl, hb⟩
  have H2 := Bx.mk (And.intro (H1.out.1.later hb) (H1.out.2.later hb))
  clear hb H1
  go_wp2_with fail
  simp only [HVV.out.1, HVV.out.2]
  refine (HNw.out w3 _ H2.out.2).mono ?_
  rintro e w4 ⟨vk, rfl, hk4, hb⟩
  have H3 := Bx.mk (And.intro (H2.out.1.later hb) (And.intro (H2.out.2.later hb) hk4.key))
  clear hb hk4 H2
  go_wp2_with fail
  refine (HMake.out w4).mono ?_
  rintro e w5 ⟨rfl, hb⟩
  have H4 := Bx.mk (And.intro (H3.out.1.later hb) (And.intro (H3.out.2.1.later hb) (H3.out.2.2.later hb)))
  clear hb H3
  obtain ⟨D, hD⟩ : ∃ D, w5.heap.size = D := ⟨_, rfl⟩
  have HBD : Bx (B + 1 < D) := Bx.mk (by rw [← hD]; exact H4.out.1.lt (.head _))
  have H5 := Bx.mk (H4.out.1.new (.cells zt 32))
  rw [hD] at H5
  go_upto_region 7 with (refine wpList_store_new rfl 32 _ _ rfl D tbl.toArray zt _ (by rfl) (by rfl) (H5.out.rows _ (.head _)) HTI.out.1 HTI.out.2.1 HTI.out.2.2.1 ?_; intro w6 hw8 hr8; have hg8 := Bx.mk (kb_of hw8); have HR8 := Bx.mk hr8; clear hw8 hr8)
  have H6 := Bx.mk (And.intro (H5.out.set hg8.out HR8.out (by have := HBD.out; omega) (by intro y hy; have := HBD.out; simp at hy; rcases hy with rfl | rfl <;> (simp only; omega))) (And.intro (H4.out.2.1.later (below_of hD hg8.out)) (H4.out.2.2.later (below_of hD hg8.out))))
  clear H5 hg8 HR8 H4 hD
  obtain ⟨k0, k1, k2, k3⟩ := cells4 (H6.out.1.rows _ (.tail _ (.tail _ (.head _))))
  go_wp2_with fail
  clear k0 k1 k2 k3
  refine (HTo.out w6).mono ?_
  rintro e w7 ⟨rfl, hb⟩
  have H7 := Bx.mk (And.intro (H6.out.1.later hb) (And.intro (H6.out.2.1.later hb) (H6.out.2.2.later hb)))
  clear hb H6
  go_wp2_with fail
  refine (HGc.out w7 vk H7.out.1.below H7.out.2.2).mono ?_
  rintro e w8 ⟨va, rfl, hk8, hb⟩
  have H8 := Bx.mk (And.intro (H7.out.1.later hb) (And.intro (H7.out.2.1.later hb) (And.intro (H7.out.2.2.later hb) hk8.key)))
  clear hb hk8 H7
  obtain ⟨k0, k1, k2, k3⟩ := cells4 (H8.out.1.rows _ (.tail _ (.head _)))
  go_wp2_with fail
  clear k0 k1 k2 k3
  refine (HTd.out w8).mono ?_
  rintro e w9 ⟨rfl, hb⟩
  have H9 := Bx.mk (And.intro (H8.out.1.later hb) (And.intro (H8.out.2.1.later hb) (And.intro (H8.out.2.2.1.later hb) (H8.out.2.2.2.later hb))))
  clear hb H8
  go_wp2_with fail
  refine (HGd.out w9 vk H9.out.1.below H9.out.2.2.1).mono ?_
  rintro e w10 ⟨vb, rfl, hk10, hb⟩
  have H10 := Bx.mk (And.intro (H9.out.1.later hb) (And.intro (H9.out.2.1.later hb) (And.intro (H9.out.2.2.2.later hb) hk10.key)))
  clear hb hk10 H9
  obtain ⟨k0, k1, k2, k3⟩ := cells4 (H10.out.1.rows _ (.tail _ (.tail _ (.head _))))
  go_wp2_with fail
  clear k0 k1 k2 k3
  refine (HTk.out w10 _ H10.out.1.below H10.out.2.1).mono ?_
  rintro e w11 ⟨rfl, hb⟩
  have H11 := Bx.mk (And.intro (H10.out.1.later hb) (And.intro (H10.out.2.1.later hb) (And.intro (H10.out.2.2.1.later hb) (H10.out.2.2.2.later hb))))
  clear hb H10
  go_wp2_with fail
  refine (HNr.out w11).mono ?_
  rintro e w12 ⟨R, rfl, hr12, hb⟩
  have H12 := Bx.mk (And.intro ((H11.out.1.later hb).add hr12) (And.intro (H11.out.2.1.later hb) (And.intro (H11.out.2.2.1.later hb) (H11.out.2.2.2.later hb))))
  clear hb hr12 H11
  go_wp2_with fail
  refine (HRg.out w12 R H12.out.1.below (H12.out.1.rows _ (.head _))).mono ?_
  rintro e w13 ⟨vx, rfl, hk13, hb⟩
  have H13 := Bx.mk (And.intro (H12.out.1.later hb) (And.intro (H12.out.2.1.later hb) (And.intro (H12.out.2.2.1.later hb) (And.intro (H12.out.2.2.2.later hb) hk13.key))))
  clear hb hk13 H12
  go_wp2_with fail
  refine (HRh.out w13 R H13.out.1.below (H13.out.1.rows _ (.head _))).mono ?_
  rintro e w14 ⟨vy, rfl, hk14, hb⟩
  have H14 := Bx.mk (And.intro (H13.out.1.later hb) (And.intro (H13.out.2.1.later hb) (And.intro (H13.out.2.2.1.later hb) (And.intro (H13.out.2.2.2.1.later hb) (And.intro (H13.out.2.2.2.2.later hb) hk14.key)))))
  clear hb hk14 H13
  go_upto_region 12 with fail
  have hd14 : Below w14.heap.size w14 w14.drew := (Below.refl _ _).drew
  have R0 := Bx.mk (And.intro (H14.out.1.later hd14) (And.intro (H14.out.2.1.later hd14) (And.intro (H14.out.2.2.1.later hd14) (And.intro (H14.out.2.2.2.1.later hd14) (And.intro (H14.out.2.2.2.2.1.later hd14) (H14.out.2.2.2.2.2.later hd14))))))
  clear hd14 H14
  refine wp_region_noPanic ?_
  refine wp_region_held_drew (S := fun W => W.rangeAt D 0 tbl ∧ (W.rangeAt B 0 [.int .i64 i, .int .i64 r, .int .i64 x, .int .i64 q] ∧ W.rangeAt (B + 1) 0 [.int .i64 i', .int .i64 r', .int .i64 x', .int .i64 q'])) (by kernel_rfl) (⟨row_rng (R0.out.1.rows _ (.tail _ (.head _))), row_rng (l := [.int .i64 i, .int .i64 r, .int .i64 x, .int .i64 q]) (R0.out.1.rows _ (.tail _ (.tail _ (.tail _ (.head _))))), row_rng (l := [.int .i64 i', .int .i64 r', .int .i64 x', .int .i64 q']) (R0.out.1.rows _ (.tail _ (.tail _ (.head _))))⟩) (fun hHeld => ?_)
  generalize w14.drew = W0 at *
  refine stepL 0 (by kernel_rfl) rfl (fun K hK => ?_)
  go_simp
  refine (known7_any W0 (HT.out W0 R0.out.1.below).1 (HT.out W0 R0.out.1.below).2).mono ?_
  rintro e W1 ⟨rfl, hb⟩
  show K _ _
  have R1 := Bx.mk (And.intro (R0.out.1.later hb) (And.intro (R0.out.2.1.later hb) (And.intro (R0.out.2.2.1.later hb) (And.intro (R0.out.2.2.2.1.later hb) (And.intro (R0.out.2.2.2.2.1.later hb) (R0.out.2.2.2.2.2.later hb))))))
  clear hb R0
  refine hK.out _ _ ⟨row_rng (R1.out.1.rows _ (.tail _ (.head _))), row_rng (l := [.int .i64 i, .int .i64 r, .int .i64 x, .int .i64 q]) (R1.out.1.rows _ (.tail _ (.tail _ (.tail _ (.head _))))), row_rng (l := [.int .i64 i', .int .i64 r', .int .i64 x', .int .i64 q']) (R1.out.1.rows _ (.tail _ (.tail _ (.head _))))⟩ (fun hHeld => ?_)
  clear hK K
  try simp only [Act.put, List.setIfInBounds_toArray, List.set_cons_zero, List.set_cons_succ]
  refine takeL 1 (v := ?_) rfl (by kernel_rfl) (by kernel_rfl) (by kernel_rfl) (fun _ _ _ h => h) (Or.inl ⟨by rfl, ?_⟩) hHeld ?_
  rotate_left 1
  · (intro w hSw; go_simp; try with_reducible rfl)
  try simp only [Act.put, List.setIfInBounds_toArray, List.set_cons_zero, List.set_cons_succ]
  refine takeL 2 (v := ?_) rfl (by kernel_rfl) (by kernel_rfl) (by kernel_rfl) (fun _ _ _ h => h) (Or.inl ⟨by rfl, ?_⟩) hHeld ?_
  rotate_left 1
  · (intro w hSw; go_simp; try with_reducible rfl)
  try simp only [Act.put, List.setIfInBounds_toArray, List.set_cons_zero, List.set_cons_succ]
  refine takeL 3 (v := ?_) rfl (by kernel_rfl) (by kernel_rfl) (by kernel_rfl) (fun _ _ _ h => h) (Or.inl ⟨by rfl, ?_⟩) hHeld ?_
  rotate_left 1
  · (intro w hSw; go_simp; try with_reducible rfl)
  try simp only [Act.put, List.setIfInBounds_toArray, List.set_cons_zero, List.set_cons_succ]
  refine takeL 4 (v := ?_) rfl (by kernel_rfl) (by kernel_rfl) (by kernel_rfl) (fun _ _ _ h => h) (Or.inl ⟨by rfl, ?_⟩) hHeld ?_
  rotate_left 1
  · (intro w hSw; go_simp; try with_reducible rfl)
  try simp only [Act.put, List.setIfInBounds_toArray, List.set_cons_zero, List.set_cons_succ]
  refine takeL 5 (v := ?_) rfl (by kernel_rfl) (by kernel_rfl) (by kernel_rfl) (fun _ _ _ h => h) (Or.inl ⟨by rfl, ?_⟩) hHeld ?_
  rotate_left 1
  · (intro w hSw; go_simp; try with_reducible rfl)
  try simp only [Act.put, List.setIfInBounds_toArray, List.set_cons_zero, List.set_cons_succ]
  refine takeL 6 (v := ?_) rfl (by kernel_rfl) (by kernel_rfl) (by kernel_rfl) (fun _ _ _ h => h) (Or.inl ⟨by rfl, ?_⟩) hHeld ?_
  rotate_left 1
  · (intro w hSw; go_simp; try with_reducible rfl)
  try simp only [Act.put, List.setIfInBounds_toArray, List.set_cons_zero, List.set_cons_succ]
  refine takeL 7 (v := ?_) rfl (by kernel_rfl) (by kernel_rfl) (by kernel_rfl) (fun _ _ _ h => h) (Or.inl ⟨by rfl, ?_⟩) hHeld ?_
  rotate_left 1
  · (intro w hSw; go_simp; try with_reducible rfl)
  try simp only [Act.put, List.setIfInBounds_toArray, List.set_cons_zero, List.set_cons_succ]
  refine takeL 8 (v := ?_) rfl (by kernel_rfl) (by kernel_rfl) (by kernel_rfl) (fun _ _ _ h => h) (Or.inl ⟨by rfl, ?_⟩) hHeld ?_
  rotate_left 1
  · (intro w hSw; go_simp; try with_reducible rfl)
  try simp only [Act.put, List.setIfInBounds_toArray, List.set_cons_zero, List.set_cons_succ]
  refine takeL 9 (v := ?_) rfl (by kernel_rfl) (by kernel_rfl) (by kernel_rfl) (fun _ _ _ h => h) (Or.inl ⟨by rfl, ?_⟩) hHeld ?_
  rotate_left 1
  · (intro w hSw; go_simp; try with_reducible rfl)
  try simp only [Act.put, List.setIfInBounds_toArray, List.set_cons_zero, List.set_cons_succ]
  refine takeL 10 (v := ?_) rfl (by kernel_rfl) (by kernel_rfl) (by kernel_rfl) (fun _ _ _ h => h) (Or.inl ⟨by rfl, ?_⟩) hHeld ?_
  rotate_left 1
  · (intro w hSw; go_simp; try with_reducible rfl)
  try simp only [Act.put, List.setIfInBounds_toArray, List.set_cons_zero, List.set_cons_succ]
  refine takeL 12 (v := ?_) rfl (by kernel_rfl) (by kernel_rfl) (by kernel_rfl) (fun _ _ _ h => h) (Or.inl ⟨by rfl, ?_⟩) hHeld ?_
  rotate_left 1
  · (intro w hSw; go_simp; try with_reducible rfl)
  try simp only [Act.put, List.setIfInBounds_toArray, List.set_cons_zero, List.set_cons_succ]
  refine takeL 15 rfl (by kernel_rfl) (by kernel_rfl) (by kernel_rfl) (fun _ _ _ h => h) (yieldsIf_load_mid (by rfl) _ _ rfl _ _ rfl _ _ (fun w hSw => hSw.1) Tryd.underlying32 rfl HTI.out.2.2.2) hHeld ?_
  try simp only [Act.put, List.setIfInBounds_toArray, List.set_cons_zero, List.set_cons_succ]
  refine takeL 16 (v := ?_) rfl (by kernel_rfl) (by kernel_rfl) (by kernel_rfl) (fun _ _ _ h => h) (Or.inl ⟨by rfl, ?_⟩) hHeld ?_
  rotate_left 1
  · (intro w hSw; go_simp; try with_reducible rfl)
  try simp only [Act.put, List.setIfInBounds_toArray, List.set_cons_zero, List.set_cons_succ]
  refine takeL 17 rfl (by kernel_rfl) (by kernel_rfl) (by kernel_rfl) (fun _ _ _ h => h) (yieldsIf_load_mid (by rfl) _ _ rfl _ _ rfl _ _ (fun w hSw => hSw.2.1) Tryd.underlying24 rfl (by kernel_rfl)) hHeld ?_
  try simp only [Act.put, List.setIfInBounds_toArray, List.set_cons_zero, List.set_cons_succ]
  refine takeL 18 (v := ?_) rfl (by kernel_rfl) (by kernel_rfl) (by kernel_rfl) (fun _ _ _ h => h) (Or.inl ⟨by rfl, ?_⟩) hHeld ?_
  rotate_left 1
  · (intro w hSw; go_simp; try with_reducible rfl)
  try simp only [Act.put, List.setIfInBounds_toArray, List.set_cons_zero, List.set_cons_succ]
  refine takeL 20 rfl (by kernel_rfl) (by kernel_rfl) (by kernel_rfl) (fun _ _ _ h => h) (yieldsIf_load_mid (by rfl) _ _ rfl _ _ rfl _ _ (fun w hSw => hSw.1) Tryd.underlying32 rfl HTI.out.2.2.2) hHeld ?_
  try simp only [Act.put, List.setIfInBounds_toArray, List.set_cons_zero, List.set_cons_succ]
  refine takeL 21 (v := ?_) rfl (by kernel_rfl) (by kernel_rfl) (by kernel_rfl) (fun _ _ _ h => h) (Or.inl ⟨by rfl, ?_⟩) hHeld ?_
  rotate_left 1
  · (intro w hSw; go_simp; try with_reducible rfl)
  try simp only [Act.put, List.setIfInBounds_toArray, List.set_cons_zero, List.set_cons_succ]
  refine takeL 22 rfl (by kernel_rfl) (by kernel_rfl) (by kernel_rfl) (fun _ _ _ h => h) (yieldsIf_load_mid (by rfl) _ _ rfl _ _ rfl _ _ (fun w hSw => hSw.2.2) Tryd.underlying24 rfl (by kernel_rfl)) hHeld ?_
  try simp only [Act.put, List.setIfInBounds_toArray, List.set_cons_zero, List.set_cons_succ]
  refine takeL 23 (v := ?_) rfl (by kernel_rfl) (by kernel_rfl) (by kernel_rfl) (fun _ _ _ h => h) (Or.inl ⟨by rfl, ?_⟩) hHeld ?_
  rotate_left 1
  · (intro w hSw; go_simp; try with_reducible rfl)
  try simp only [Act.put, List.setIfInBounds_toArray, List.set_cons_zero, List.set_cons_succ]
  refine stepL 11 (by kernel_rfl) rfl (fun K hK => ?_)
  go_simp
  refine (HKa.out W1 va R1.out.2.2.1).mono ?_
  rintro e W2 ⟨u1, rfl, ho, hb⟩
  show K _ _
  have R2 := Bx.mk (And.intro (R1.out.1.later hb) (And.intro (R1.out.2.1.later hb) (And.intro (R1.out.2.2.1.later hb) (And.intro (R1.out.2.2.2.1.later hb) (And.intro (R1.out.2.2.2.2.1.later hb) (R1.out.2.2.2.2.2.later hb))))))
  have Bu1 := ho.bytes
  clear ho
  clear hb R1
  refine hK.out _ _ ⟨row_rng (R2.out.1.rows _ (.tail _ (.head _))), row_rng (l := [.int .i64 i, .int .i64 r, .int .i64 x, .int .i64 q]) (R2.out.1.rows _ (.tail _ (.tail _ (.tail _ (.head _))))), row_rng (l := [.int .i64 i', .int .i64 r', .int .i64 x', .int .i64 q']) (R2.out.1.rows _ (.tail _ (.tail _ (.head _))))⟩ (fun hHeld => ?_)
  clear hK K
  try simp only [Act.put, List.setIfInBounds_toArray, List.set_cons_zero, List.set_cons_succ]
  refine stepL 13 (by kernel_rfl) rfl (fun K hK => ?_)
  go_simp
  refine (HKb.out W2 vb R2.out.2.2.2.1).mono ?_
  rintro e W3 ⟨u2, rfl, ho, hb⟩
  show K _ _
  have R3 := Bx.mk (And.intro (R2.out.1.later hb) (And.intro (R2.out.2.1.later hb) (And.intro (R2.out.2.2.1.later hb) (And.intro (R2.out.2.2.2.1.later hb) (And.intro (R2.out.2.2.2.2.1.later hb) (R2.out.2.2.2.2.2.later hb))))))
  have Bu1 := Bu1.later hb
  have Bu2 := ho.bytes
  clear ho
  clear hb R2
  refine hK.out _ _ ⟨row_rng (R3.out.1.rows _ (.tail _ (.head _))), row_rng (l := [.int .i64 i, .int .i64 r, .int .i64 x, .int .i64 q]) (R3.out.1.rows _ (.tail _ (.tail _ (.tail _ (.head _))))), row_rng (l := [.int .i64 i', .int .i64 r', .int .i64 x', .int .i64 q']) (R3.out.1.rows _ (.tail _ (.tail _ (.head _))))⟩ (fun hHeld => ?_)
  clear hK K
  try simp only [Act.put, List.setIfInBounds_toArray, List.set_cons_zero, List.set_cons_succ]
  refine stepL 14 (by kernel_rfl) rfl (fun K hK => ?_)
  go_simp
  refine (HSab.out W3 _ _ Bu1 Bu2).mono ?_
  rintro e W4 ⟨rfl, hdd⟩
  show K _ _
  obtain ⟨nd, hnd⟩ := hdd
  have hb : Below W3.heap.size W3 W4 := by rw [hnd]; exact drewN_below _ _
  clear hnd
  have R4 := Bx.mk (And.intro (R3.out.1.later hb) (And.intro (R3.out.2.1.later hb) (And.intro (R3.out.2.2.1.later hb) (And.intro (R3.out.2.2.2.1.later hb) (And.intro (R3.out.2.2.2.2.1.later hb) (R3.out.2.2.2.2.2.later hb))))))
  clear hb R3
  refine hK.out _ _ ⟨row_rng (R4.out.1.rows _ (.tail _ (.head _))), row_rng (l := [.int .i64 i, .int .i64 r, .int .i64 x, .int .i64 q]) (R4.out.1.rows _ (.tail _ (.tail _ (.tail _ (.head _))))), row_rng (l := [.int .i64 i', .int .i64 r', .int .i64 x', .int .i64 q']) (R4.out.1.rows _ (.tail _ (.tail _ (.head _))))⟩ (fun hHeld => ?_)
  clear hK K
  try simp only [Act.put, List.setIfInBounds_toArray, List.set_cons_zero, List.set_cons_succ]
  refine stepL 19 (by kernel_rfl) rfl (fun K hK => ?_)
  go_simp
  refine (HRc.out W4 _ R4.out.2.1).mono ?_
  rintro e W5 ⟨rfl, hb⟩
  show K _ _
  have R5 := Bx.mk (And.intro (R4.out.1.later hb) (And.intro (R4.out.2.1.later hb) (And.intro (R4.out.2.2.1.later hb) (And.intro (R4.out.2.2.2.1.later hb) (And.intro (R4.out.2.2.2.2.1.later hb) (R4.out.2.2.2.2.2.later hb))))))
  clear hb R4
  refine hK.out _ _ ⟨row_rng (R5.out.1.rows _ (.tail _ (.head _))), row_rng (l := [.int .i64 i, .int .i64 r, .int .i64 x, .int .i64 q]) (R5.out.1.rows _ (.tail _ (.tail _ (.tail _ (.head _))))), row_rng (l := [.int .i64 i', .int .i64 r', .int .i64 x', .int .i64 q']) (R5.out.1.rows _ (.tail _ (.tail _ (.head _))))⟩ (fun hHeld => ?_)
  clear hK K
  try simp only [Act.put, List.setIfInBounds_toArray, List.set_cons_zero, List.set_cons_succ]
  refine stepL 24 (by kernel_rfl) rfl (fun K hK => ?_)
  go_simp
  refine (HRe.out W5 _ R5.out.2.1).mono ?_
  rintro e W6 ⟨rfl, hb⟩
  show K _ _
  have R6 := Bx.mk (And.intro (R5.out.1.later hb) (And.intro (R5.out.2.1.later hb) (And.intro (R5.out.2.2.1.later hb) (And.intro (R5.out.2.2.2.1.later hb) (And.intro (R5.out.2.2.2.2.1.later hb) (R5.out.2.2.2.2.2.later hb))))))
  clear hb R5
  refine hK.out _ _ ⟨row_rng (R6.out.1.rows _ (.tail _ (.head _))), row_rng (l := [.int .i64 i, .int .i64 r, .int .i64 x, .int .i64 q]) (R6.out.1.rows _ (.tail _ (.tail _ (.tail _ (.head _))))), row_rng (l := [.int .i64 i', .int .i64 r', .int .i64 x', .int .i64 q']) (R6.out.1.rows _ (.tail _ (.tail _ (.head _))))⟩ (fun hHeld => ?_)
  clear hK K
  try simp only [Act.put, List.setIfInBounds_toArray, List.set_cons_zero, List.set_cons_succ]
  refine takeL 25 (v := ?_) rfl (by kernel_rfl) (by kernel_rfl) (by kernel_rfl) (fun _ _ _ h => h) (Or.inl ⟨by rfl, ?_⟩) hHeld ?_
  rotate_left 1
  · (intro w hSw; have h25 := hsec w; go_simp; try with_reducible rfl)
  try simp only [Act.put, List.setIfInBounds_toArray, List.set_cons_zero, List.set_cons_succ]
  refine takeL 26 (v := ?_) rfl (by kernel_rfl) (by kernel_rfl) (by kernel_rfl) (fun _ _ _ h => h) (Or.inl ⟨by rfl, ?_⟩) hHeld ?_
  rotate_left 1
  · (intro w hSw; cases ev <;> (go_simp; try with_reducible rfl))
  try simp only [Act.put, List.setIfInBounds_toArray, List.set_cons_zero, List.set_cons_succ]
  refine takeL 27 (v := ?_) rfl (by kernel_rfl) (by kernel_rfl) (by kernel_rfl) (fun _ _ _ h => h) (Or.inl ⟨by rfl, ?_⟩) hHeld ?_
  rotate_left 1
  · (intro w hSw; go_simp; try with_reducible rfl)
  try simp only [Act.put, List.setIfInBounds_toArray, List.set_cons_zero, List.set_cons_succ]
  refine takeL 28 (v := ?_) rfl (by kernel_rfl) (by kernel_rfl) (by kernel_rfl) (fun _ _ _ h => h) (Or.inl ⟨by rfl, ?_⟩) hHeld ?_
  rotate_left 1
  · (intro w hSw; go_simp; try with_reducible rfl)
  try simp only [Act.put, List.setIfInBounds_toArray, List.set_cons_zero, List.set_cons_succ]
  refine takeL 29 (v := ?_) rfl (by kernel_rfl) (by kernel_rfl) (by kernel_rfl) (fun _ _ _ h => h) (Or.inl ⟨by rfl, ?_⟩) hHeld ?_
  rotate_left 1
  · (intro w hSw; go_simp; try with_reducible rfl)
  try simp only [Act.put, List.setIfInBounds_toArray, List.set_cons_zero, List.set_cons_succ]
  refine takeL 30 (v := ?_) rfl (by kernel_rfl) (by kernel_rfl) (by kernel_rfl) (fun _ _ _ h => h) (Or.inl ⟨by rfl, ?_⟩) hHeld ?_
  rotate_left 1
  · (intro w hSw; go_simp; try with_reducible rfl)
  try simp only [Act.put, List.setIfInBounds_toArray, List.set_cons_zero, List.set_cons_succ]
  refine takeL 31 (v := ?_) rfl (by kernel_rfl) (by kernel_rfl) (by kernel_rfl) (fun _ _ _ h => h) (Or.inl ⟨by rfl, ?_⟩) hHeld ?_
  rotate_left 1
  · (intro w hSw; go_simp; try with_reducible rfl)
  try simp only [Act.put, List.setIfInBounds_toArray, List.set_cons_zero, List.set_cons_succ]
  refine takeL 32 (v := ?_) rfl (by kernel_rfl) (by kernel_rfl) (by kernel_rfl) (fun _ _ _ h => h) (Or.inl ⟨by rfl, ?_⟩) hHeld ?_
  rotate_left 1
  · (intro w hSw; go_simp; try with_reducible rfl)
  try simp only [Act.put, List.setIfInBounds_toArray, List.set_cons_zero, List.set_cons_succ]
  refine takeL 33 (v := ?_) rfl (by kernel_rfl) (by kernel_rfl) (by kernel_rfl) (fun _ _ _ h => h) (Or.inl ⟨by rfl, ?_⟩) hHeld ?_
  rotate_left 1
  · (intro w hSw; go_simp; try with_reducible rfl)
  try simp only [Act.put, List.setIfInBounds_toArray, List.set_cons_zero, List.set_cons_succ]
  refine takeL 34 (v := ?_) rfl (by kernel_rfl) (by kernel_rfl) (by kernel_rfl) (fun _ _ _ h => h) (Or.inl ⟨by rfl, ?_⟩) hHeld ?_
  rotate_left 1
  · (intro w hSw; go_simp; try with_reducible rfl)
  try simp only [Act.put, List.setIfInBounds_toArray, List.set_cons_zero, List.set_cons_succ]
  refine takeL 35 (v := ?_) rfl (by kernel_rfl) (by kernel_rfl) (by kernel_rfl) (fun _ _ _ h => h) (Or.inl ⟨by rfl, ?_⟩) hHeld ?_
  rotate_left 1
  · (intro w hSw; go_simp; try with_reducible rfl)
  try simp only [Act.put, List.setIfInBounds_toArray, List.set_cons_zero, List.set_cons_succ]
  refine takeL 36 (v := ?_) rfl (by kernel_rfl) (by kernel_rfl) (by kernel_rfl) (fun _ _ _ h => h) (Or.inl ⟨by rfl, ?_⟩) hHeld ?_
  rotate_left 1
  · (intro w hSw; go_simp; try with_reducible rfl)
  try simp only [Act.put, List.setIfInBounds_toArray, List.set_cons_zero, List.set_cons_succ]
  refine takeL 37 (v := ?_) rfl (by kernel_rfl) (by kernel_rfl) (by kernel_rfl) (fun _ _ _ h => h) (Or.inl ⟨by rfl, ?_⟩) hHeld ?_
  rotate_left 1
  · (intro w hSw; go_simp; try with_reducible rfl)
  try simp only [Act.put, List.setIfInBounds_toArray, List.set_cons_zero, List.set_cons_succ]
  refine takeL 38 (v := ?_) rfl (by kernel_rfl) (by kernel_rfl) (by kernel_rfl) (fun _ _ _ h => h) (Or.inl ⟨by rfl, ?_⟩) hHeld ?_
  rotate_left 1
  · (intro w hSw; go_simp; try with_reducible rfl)
  try simp only [Act.put, List.setIfInBounds_toArray, List.set_cons_zero, List.set_cons_succ]
  refine takeL 39 (v := ?_) rfl (by kernel_rfl) (by kernel_rfl) (by kernel_rfl) (fun _ _ _ h => h) (Or.inl ⟨by rfl, ?_⟩) hHeld ?_
  rotate_left 1
  · (intro w hSw; go_simp; try with_reducible rfl)
  try simp only [Act.put, List.setIfInBounds_toArray, List.set_cons_zero, List.set_cons_succ]
  refine takeL 40 (v := ?_) rfl (by kernel_rfl) (by kernel_rfl) (by kernel_rfl) (fun _ _ _ h => h) (Or.inl ⟨by rfl, ?_⟩) hHeld ?_
  rotate_left 1
  · (intro w hSw; go_simp; try with_reducible rfl)
  try simp only [Act.put, List.setIfInBounds_toArray, List.set_cons_zero, List.set_cons_succ]
  refine takeL 41 (v := ?_) rfl (by kernel_rfl) (by kernel_rfl) (by kernel_rfl) (fun _ _ _ h => h) (Or.inl ⟨by rfl, ?_⟩) hHeld ?_
  rotate_left 1
  · (intro w hSw; go_simp; try with_reducible rfl)
  try simp only [Act.put, List.setIfInBounds_toArray, List.set_cons_zero, List.set_cons_succ]
  refine takeL 43 (v := ?_) rfl (by kernel_rfl) (by kernel_rfl) (by kernel_rfl) (fun _ _ _ h => h) (Or.inl ⟨by rfl, ?_⟩) hHeld ?_
  rotate_left 1
  · (intro w hSw; go_simp; try with_reducible rfl)
  try simp only [Act.put, List.setIfInBounds_toArray, List.set_cons_zero, List.set_cons_succ]
  refine stepL 42 (by kernel_rfl) rfl (fun K hK => ?_)
  go_simp
  refine (HKa.out W6 vx R6.out.2.2.2.2.1).mono ?_
  rintro e W7 ⟨u3, rfl, ho, hb⟩
  show K _ _
  have R7 := Bx.mk (And.intro (R6.out.1.later hb) (And.intro (R6.out.2.1.later hb) (And.intro (R6.out.2.2.1.later hb) (And.intro (R6.out.2.2.2.1.later hb) (And.intro (R6.out.2.2.2.2.1.later hb) (R6.out.2.2.2.2.2.later hb))))))
  have Bu3 := ho.bytes
  clear ho
  clear hb R6
  refine hK.out _ _ ⟨row_rng (R7.out.1.rows _ (.tail _ (.head _))), row_rng (l := [.int .i64 i, .int .i64 r, .int .i64 x, .int .i64 q]) (R7.out.1.rows _ (.tail _ (.tail _ (.tail _ (.head _))))), row_rng (l := [.int .i64 i', .int .i64 r', .int .i64 x', .int .i64 q']) (R7.out.1.rows _ (.tail _ (.tail _ (.head _))))⟩ (fun hHeld => ?_)
  clear hK K
  try simp only [Act.put, List.setIfInBounds_toArray, List.set_cons_zero, List.set_cons_succ]
  refine stepL 44 (by kernel_rfl) rfl (fun K hK => ?_)
  go_simp
  refine (HKa.out W7 va R7.out.2.2.1).mono ?_
  rintro e W8 ⟨u4, rfl, ho, hb⟩
  show K _ _
  have R8 := Bx.mk (And.intro (R7.out.1.later hb) (And.intro (R7.out.2.1.later hb) (And.intro (R7.out.2.2.1.later hb) (And.intro (R7.out.2.2.2.1.later hb) (And.intro (R7.out.2.2.2.2.1.later hb) (R7.out.2.2.2.2.2.later hb))))))
  have Bu3 := Bu3.later hb
  have Bu4 := ho.bytes
  clear ho
  clear hb R7
  refine hK.out _ _ ⟨row_rng (R8.out.1.rows _ (.tail _ (.head _))), row_rng (l := [.int .i64 i, .int .i64 r, .int .i64 x, .int .i64 q]) (R8.out.1.rows _ (.tail _ (.tail _ (.tail _ (.head _))))), row_rng (l := [.int .i64 i', .int .i64 r', .int .i64 x', .int .i64 q']) (R8.out.1.rows _ (.tail _ (.tail _ (.head _))))⟩ (fun hHeld => ?_)
  clear hK K
  try simp only [Act.put, List.setIfInBounds_toArray, List.set_cons_zero, List.set_cons_succ]
  refine stepL 45 (by kernel_rfl) rfl (fun K hK => ?_)
  go_simp
  refine (HSaa.out W8 _ _ Bu3 Bu4).mono ?_
  rintro e W9 ⟨rfl, hdd⟩
  show K _ _
  obtain ⟨nd, hnd⟩ := hdd
  have hb : Below W8.heap.size W8 W9 := by rw [hnd]; exact drewN_below _ _
  clear hnd
  have R9 := Bx.mk (And.intro (R8.out.1.later hb) (And.intro (R8.out.2.1.later hb) (And.intro (R8.out.2.2.1.later hb) (And.intro (R8.out.2.2.2.1.later hb) (And.intro (R8.out.2.2.2.2.1.later hb) (R8.out.2.2.2.2.2.later hb))))))
  clear hb R8
  refine hK.out _ _ ⟨row_rng (R9.out.1.rows _ (.tail _ (.head _))), row_rng (l := [.int .i64 i, .int .i64 r, .int .i64 x, .int .i64 q]) (R9.out.1.rows _ (.tail _ (.tail _ (.tail _ (.head _))))), row_rng (l := [.int .i64 i', .int .i64 r', .int .i64 x', .int .i64 q']) (R9.out.1.rows _ (.tail _ (.tail _ (.head _))))⟩ (fun hHeld => ?_)
  clear hK K
  try simp only [Act.put, List.setIfInBounds_toArray, List.set_cons_zero, List.set_cons_succ]
  refine takeL 46 (v := ?_) rfl (by kernel_rfl) (by kernel_rfl) (by kernel_rfl) (fun _ _ _ h => h) (Or.inl ⟨by rfl, ?_⟩) hHeld ?_
  rotate_left 1
  · (intro w hSw; go_simp; try with_reducible rfl)
  try simp only [Act.put, List.setIfInBounds_toArray, List.set_cons_zero, List.set_cons_succ]
  refine takeL 47 (v := ?_) rfl (by kernel_rfl) (by kernel_rfl) (by kernel_rfl) (fun _ _ _ h => h) (Or.inl ⟨by rfl, ?_⟩) hHeld ?_
  rotate_left 1
  · (intro w hSw; go_simp; try with_reducible rfl)
  try simp only [Act.put, List.setIfInBounds_toArray, List.set_cons_zero, List.set_cons_succ]
  refine takeL 48 (v := ?_) rfl (by kernel_rfl) (by kernel_rfl) (by kernel_rfl) (fun _ _ _ h => h) (Or.inl ⟨by rfl, ?_⟩) hHeld ?_
  rotate_left 1
  · (intro w hSw; go_simp; try with_reducible rfl)
  try simp only [Act.put, List.setIfInBounds_toArray, List.set_cons_zero, List.set_cons_succ]
  refine takeL 49 (v := ?_) rfl (by kernel_rfl) (by kernel_rfl) (by kernel_rfl) (fun _ _ _ h => h) (Or.inl ⟨by rfl, ?_⟩) hHeld ?_
  rotate_left 1
  · (intro w hSw; go_simp; try with_reducible rfl)
  try simp only [Act.put, List.setIfInBounds_toArray, List.set_cons_zero, List.set_cons_succ]
  refine takeL 50 (v := ?_) rfl (by kernel_rfl) (by kernel_rfl) (by kernel_rfl) (fun _ _ _ h => h) (Or.inl ⟨by rfl, ?_⟩) hHeld ?_
  rotate_left 1
  · intro w hSw
    have hne3 : ¬ (V : Int) = (V' : Int) := fun e => HNE.out (by omega)
    have hne2 : ((V : Int) != (V' : Int)) = true := by simp [bne, hne3]
    go_simp
    try with_reducible rfl
  try simp only [Act.put, List.setIfInBounds_toArray, List.set_cons_zero, List.set_cons_succ]
  refine takeL 51 (v := ?_) rfl (by kernel_rfl) (by kernel_rfl) (by kernel_rfl) (fun _ _ _ h => h) (Or.inl ⟨by rfl, ?_⟩) hHeld ?_
  rotate_left 1
  · (intro w hSw; go_simp; try with_reducible rfl)
  try simp only [Act.put, List.setIfInBounds_toArray, List.set_cons_zero, List.set_cons_succ]
  refine takeL 52 (v := undef) rfl (by kernel_rfl) (by kernel_rfl) (by kernel_rfl) (fun _ _ _ h => h) (Or.inr ⟨by rfl, rfl⟩) hHeld ?_
  try simp only [Act.put, List.setIfInBounds_toArray, List.set_cons_zero, List.set_cons_succ]
  refine takeL 53 (v := undef) rfl (by kernel_rfl) (by kernel_rfl) (by kernel_rfl) (fun _ _ _ h => h) (Or.inr ⟨by rfl, rfl⟩) hHeld ?_
  try simp only [Act.put, List.setIfInBounds_toArray, List.set_cons_zero, List.set_cons_succ]
  refine takeL 54 (v := undef) rfl (by kernel_rfl) (by kernel_rfl) (by kernel_rfl) (fun _ _ _ h => h) (Or.inr ⟨by rfl, rfl⟩) hHeld ?_
  try simp only [Act.put, List.setIfInBounds_toArray, List.set_cons_zero, List.set_cons_succ]
  refine takeL 55 (v := undef) rfl (by kernel_rfl) (by kernel_rfl) (by kernel_rfl) (fun _ _ _ h => h) (Or.inr ⟨by rfl, rfl⟩) hHeld ?_
  try simp only [Act.put, List.setIfInBounds_toArray, List.set_cons_zero, List.set_cons_succ]
  refine takeL 56 (v := undef) rfl (by kernel_rfl) (by kernel_rfl) (by kernel_rfl) (fun _ _ _ h => h) (Or.inr ⟨by rfl, rfl⟩) hHeld ?_
  try simp only [Act.put, List.setIfInBounds_toArray, List.set_cons_zero, List.set_cons_succ]
  refine takeL 57 (v := ?_) rfl (by kernel_rfl) (by kernel_rfl) (by kernel_rfl) (fun _ _ _ h => h) (Or.inl ⟨by rfl, ?_⟩) hHeld ?_
  rotate_left 1
  · (intro w hSw; go_simp; try with_reducible rfl)
  try simp only [Act.put, List.setIfInBounds_toArray, List.set_cons_zero, List.set_cons_succ]
  refine takeL 58 (v := ?_) rfl (by kernel_rfl) (by kernel_rfl) (by kernel_rfl) (fun _ _ _ h => h) (Or.inl ⟨by rfl, ?_⟩) hHeld ?_
  rotate_left 1
  · (intro w hSw; go_simp; try with_reducible rfl)
  try simp only [Act.put, List.setIfInBounds_toArray, List.set_cons_zero, List.set_cons_succ]
  refine takeL 59 (v := ?_) rfl (by kernel_rfl) (by kernel_rfl) (by kernel_rfl) (fun _ _ _ h => h) (Or.inl ⟨by rfl, ?_⟩) hHeld ?_
  rotate_left 1
  · (intro w hSw; go_simp; try with_reducible rfl)
  try simp only [Act.put, List.setIfInBounds_toArray, List.set_cons_zero, List.set_cons_succ]
  refine wpAnyH_done (by kernel_rfl) ?_ _
  refine NoPanic.normal ?_
  clear hHeld
  go_wp2
  go_ret
  exact ⟨rfl, R9.out.1.below⟩
theorem apart_any (m0 : List UInt8) (c d : Cl) (n n' : Int) (vm : Value) (w : World) (hm : Bytes w vm m0) (hml : m0.length ≤ 9223372036854775807) (hTab : Tab w) (hg : 0 < w.heap.size) :
    Calls Tryd.prog 5 #[vm, clV c, clV d, .int .i64 n, .int .i64 n'] w fun e w' => e = .returned (.bool true) ∧ Below w.heap.size w w' := by
  cases hc : okC c
  · exact apart_badc m0 c d n n' vm w hm hml hc hTab hg
  · cases hd : okC d
    · exact apart_badd m0 c d n n' vm w hm hml hc hd hTab hg
    · by_cases heq : wrap64 (1 + wrap64 ((IntKind.u64.wrap n).tmod 65535)) = wrap64 (1 + wrap64 ((IntKind.u64.wrap n').tmod 65535))
      · exact apart_eq m0 c d n n' vm w hm hml hc hd heq hTab hg
      · exact apart_ne m0 c d n n' vm w hm hml hc hd heq hTab hg
end Go.Proofs.YtdionedinmkeiaaDoor
