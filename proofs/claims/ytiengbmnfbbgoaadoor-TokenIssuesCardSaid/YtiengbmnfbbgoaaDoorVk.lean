/-
  Orders opened; the walk of TokenIssues.
-/
import Derived.Test.YtiengbmnfbbgoaaDoorVi
import Derived.Test.YtiengbmnfbbgoaaDoorVj
import Derived.Test.YtiengbmnfbbgoaaDoorGo
import Derived.Test.YtiengbmnfbbgoaaDoorRows
import Derived.ProofKit
import Derived.OpenShut
import Derived.ChangeOld
import Derived.Below
import Derived.Deep.DeepHandedRow
import Derived.Deep.Matrix
import Derived.Deep.Slices
namespace Go.Proofs.YtiengbmnfbbgoaaDoor
open Go Go.ChangeShapes Go.WideShapes Go.ChangeAt Go.RowKit
set_option maxRecDepth 100000 in
/-- The numbers of a slice that came in. -/
theorem raw_ints {H : Type} {enc : TypeId × Value → H} {W : World} {fuel : Nat} {c : Value} {x : DataW H × List MemPlace} (hf : DataW.trod enc Tryd.prog W 0 (fun _ => true) true fuel 68 [c] = some x) :
    ∃ ns, Ints W c ns ∧ ns.length ≤ 9223372036854775807 := by
  rcases open_ints Tryd.underlying68 Tryd.underlying3 (by kernel_rfl) hf with ⟨hcs, _⟩ | ⟨y, l, k, zs, hcs, _, hl, hm, hz, _, hcell, hwz⟩
  · simp at hcs
    subst hcs
    exact ⟨[], ⟨none, 0, rfl, Nat.le_refl _, fun _ => rfl, fun h => by simp at h⟩, by simp⟩
  · simp at hcs
    subst hcs
    have hz' : zs.length = k := by simpa using hz
    have hm' : k ≤ 9223372036854775807 := hm
    refine ⟨zs.take l, ⟨some y, k, ?_, ?_, (fun h => by cases h), fun hp => ?_⟩, by rw [List.length_take]; omega⟩
    · rw [List.length_take, Nat.min_eq_left (by omega)]
    · rw [List.length_take]; omega
    · rw [List.length_take] at hp
      obtain ⟨b, off, rfl, hc'⟩ := ints_at hcell (by omega)
      refine ⟨b, off, rfl, fun j hj => ?_⟩
      rw [List.length_take] at hj
      rw [hc' j (by omega)]
      have hjz : j < zs.length := by omega
      simp [hjz, show j < l by omega]
set_option maxRecDepth 100000 in
theorem ord_in {H : Type} {enc : TypeId × Value → H} {W : World} {fuel : Nat} {cs : List Value} {x : DataW H × List MemPlace} (h : DataW.trod enc Tryd.prog W 0 (fun _ => true) true fuel 70 cs = some x) : ∃ o : Od, ∃ vr, cs = [.int .i64 o.id, .int .i64 o.ex, vr] ∧ Ints W vr o.ns ∧ o.ns.length ≤ 9223372036854775807 := by
  obtain ⟨xs, n, -, -, hlen, hxl, hf⟩ := DataW.trod_struct Tryd.underlying70 h
  have hl3 : cs.length = 3 := hlen.trans (by kernel_rfl)
  have hx3 : xs.length = 3 := hxl
  match cs, hl3, xs, hx3 with
  | [c0, c1, c2], _, [y0, y1, y2], _ =>
    have g0 : DataW.trod enc Tryd.prog W 0 (fun _ => true) true n 3 [c0] = some y0 := hf 0 _ rfl
    have g1 : DataW.trod enc Tryd.prog W 0 (fun _ => true) true n 3 [c1] = some y1 := hf 1 _ rfl
    have g2 : DataW.trod enc Tryd.prog W 0 (fun _ => true) true n 68 [c2] = some y2 := hf 2 _ rfl
    obtain ⟨s, e0, -, -⟩ := DataW.trod_int Tryd.underlying3 g0
    obtain ⟨m, e1, -, -⟩ := DataW.trod_int Tryd.underlying3 g1
    obtain ⟨ns, hn, hnl⟩ := raw_ints g2
    simp at e0 e1
    subst e0
    subst e1
    exact ⟨⟨s, m, ns⟩, c2, rfl, hn, hnl⟩
set_option maxRecDepth 100000 in
theorem open_orders {H : Type} {enc : TypeId × Value → H} {W : World} {a : Option Addr} {len cap : Nat} {d : DataW H} {p : List MemPlace} (h : DataW.Trod enc Tryd.prog W 0 (fun _ => true) true 63 (.slice a len cap) d p) :
    ∃ os, Ords W (.slice a len cap) os ∧ os.length ≤ 9223372036854775807 := by
  obtain ⟨fuel, hf⟩ := h
  rcases Deep.open_slice Tryd.underlying63 hf with ⟨hcs, _⟩ | ⟨x, l, c, m, n, D, Pl, hcs, _, hl, hm, hmm, _, hi⟩
  · simp [Value.cells] at hcs
    obtain ⟨rfl, rfl, rfl⟩ := hcs
    exact ⟨[], ⟨none, 0, rfl, fun h => absurd h (by simp)⟩, by simp⟩
  · simp [Value.cells] at hcs
    obtain ⟨rfl, rfl, rfl⟩ := hcs
    have hcm : cap ≤ 9223372036854775807 := hm
    have hm2 : m = cap := by simpa using hmm
    have hC : Tryd.prog.cellsOf 70 = 3 := by kernel_rfl
    have hrow : ∀ i, i < len → ∃ o : Od, ∃ vr, (∀ j u, [Value.int .i64 o.id, .int .i64 o.ex, vr][j]? = some u → W.cell? (x.add (i * 3 + j)) = some u) ∧ Ints W vr o.ns ∧ o.ns.length ≤ 9223372036854775807 := fun i hil => by
      obtain ⟨cs', hc', ht⟩ := hi i (by omega)
      rw [hC] at hc'
      obtain ⟨_, hcl, hat⟩ := World.cells?_some hc'
      obtain ⟨o, vr, e, hb, hr⟩ := ord_in ht
      refine ⟨o, vr, fun j u hj => ?_, hb, hr⟩
      have hj3 : j < 3 := by have := (List.getElem?_eq_some_iff.1 hj).1; simpa using this
      rw [← Deep.add_add, hat j hj3, e]
      exact hj
    haveI : Inhabited Od := ⟨Od.zero⟩
    obtain ⟨f, hfb⟩ := Deep.choose_lt hrow
    have hlen : ((List.range len).map f).length = len := by simp
    refine ⟨(List.range len).map f, ⟨some x, cap, by rw [hlen], fun hp => ?_⟩, by rw [hlen]; omega⟩
    rw [hlen] at hp
    obtain ⟨vr0, hc0, -⟩ := hfb 0 hp
    have h00 := hc0 0 _ rfl
    obtain ⟨b, off, spot⟩ := x
    have hspot : spot = none := by simpa [Addr.add] using World.cell?_spot h00
    subst hspot
    refine ⟨b, off, rfl, fun i hi2 => ?_⟩
    rw [hlen] at hi2
    have e : ((List.range len).map f).getD i Od.zero = f i := by simp [hi2]
    rw [e]
    obtain ⟨vr, hc1, hb1, hl1⟩ := hfb i hi2
    refine ⟨vr, fun j u hj => ?_, hb1, hl1⟩
    have := hc1 j u hj
    rw [Go.WideShapes.add_plain] at this
    show W.cell? ⟨b, off + i * 3 + j, none⟩ = some u
    rw [Nat.add_assoc]
    exact this
end Go.Proofs.YtiengbmnfbbgoaaDoor
namespace Go.Proofs.YtiengbmnfbbgoaaDoor
open Go Go.RowKit
set_option maxRecDepth 100000 in
set_option maxHeartbeats 1000000 in
theorem lastI (w : World) (M : Nat) (os : List Od) (v : Value) (key : List UInt8) (al : Option Addr) (nl cl : Nat) (s : Int) (hn9 : nl ≤ 9223372036854775807)
    (Q : Exit → Act → World → Prop) (N : Act → World → Prop) (k : Nat) (hk : ¬ (k < nl ∧ k < 8)) (hk8 : k ≤ 8)
    (hq : ∀ a' w', IL w M os v key (.slice al nl cl) s k a' w' → Q (.exit 0) a' w') (a : Act) (wr : World) (h : IL w M os v key (.slice al nl cl) s k a wr) :
    Code.wp Tryd.prog (loopAt (Tryd.f6.body) 0) (Exit.then N Q) a wr := by
  obtain ⟨va, hva, hIR⟩ := h.st
  have HS := Bx.mk hIR
  have HQ := Bx.mk hq
  obtain ⟨x, rfl, hx⟩ := open179 h.kf.fr
  have e1 := (hx 1).symm.trans h.kf.s1
  have e2 := (hx 2).symm.trans h.kf.s2
  have e7 := (hx 7).symm.trans h.kf.s7
  have e9 := (hx 9).symm.trans hva
  have e10 := (hx 10).symm.trans h.s10
  clear h hx hq hva hIR
  rw [e1, e2, e7, e9, e10]
  clear e1 e2 e7 e9 e10
  have hn1 : (nl : Int) ≤ 9223372036854775807 := by omega
  have hk1 : (k : Int) ≤ 8 := by omega
  by_cases hlt : k < nl
  · have t1 : (k : Int) < (nl : Int) := by omega
    have t2 : ¬ (k : Int) < 8 := by omega
    conv => arg 2; whnf
    go_wp2
    exact HQ.out _ _ ⟨⟨⟨rfl, rfl⟩, rfl, rfl, rfl⟩, rfl, _, rfl, HS.out⟩
  · have t1 : ¬ (k : Int) < (nl : Int) := by omega
    conv => arg 2; whnf
    go_wp2
    exact HQ.out _ _ ⟨⟨⟨rfl, rfl⟩, rfl, rfl, rfl⟩, rfl, _, rfl, HS.out⟩
theorem loopI (w0 w : World) (M : Nat) (os : List Od) (v : Value) (key : List UInt8) (al : Option Addr) (nl cl : Nat) (s : Int) (hO : Ords w0 (.slice al nl cl) os) (hnl : os.length = nl) (hb0 : Below w0.heap.size w0 w) (hM0 : w0.heap.size ≤ M) (hn9 : nl ≤ 9223372036854775807) (hkl : key.length ≤ 1000000) (hTab : Tab w) (hg : 0 < w.heap.size) (hgM : 0 ≠ M)
    (Q : Exit → Act → World → Prop) (a : Act) (wr : World) (h : IL w M os v key (.slice al nl cl) s 0 a wr) (hq : ∀ k a' w', k ≤ 8 → IL w M os v key (.slice al nl cl) s k a' w' → Q (.exit 0) a' w') :
    Code.wp Tryd.prog (.loop (loopAt (Tryd.f6.body) 0)) Q a wr :=
  wp_count (min nl 8) (fun k a w' => IL w M os v key (.slice al nl cl) s k a w') 0 (Nat.zero_le _) h (fun k a w' hk hI => by
    cases hc : okC (clO (os.getD k Od.zero) (isK os k).length)
    · exact roundI_bad w0 w M os v key al nl cl s hO hnl hb0 hM0 hn9 hkl hTab hg hgM Q k a w' (by omega) (by omega) hc hI
    · exact roundI_ok w0 w M os v key al nl cl s hO hnl hb0 hM0 hn9 hkl hTab hg hgM Q k a w' (by omega) (by omega) hc hI) (fun a w' hI => lastI w M os v key al nl cl s hn9 Q _ (min nl 8) (by omega) (by omega) (fun a' w'' h1 => hq _ a' w'' (by omega) h1) a w' hI)
set_option maxRecDepth 100000 in
set_option maxHeartbeats 2000000 in
theorem issues6_any (m0 : List UInt8) (os : List Od) (s : Int) (vm vl : Value) (w : World) (hm : Bytes w vm m0) (hO : Ords w vl os) (hml : m0.length ≤ 9223372036854775807) (hol : os.length ≤ 9223372036854775807) (hs : -9223372036854775808 ≤ s ∧ s ≤ 9223372036854775807) (hTab : Tab w) (hg : 0 < w.heap.size) :
    Calls Tryd.prog 6 #[vm, vl, .int .i64 s] w fun e w' => e = .returned (.bool true) ∧ Below w.heap.size w w' := by
  have HT : Bx (∀ W, Below w.heap.size w W → Tab W ∧ 0 < W.heap.size) := Bx.mk fun W hb => ⟨hTab.later hb hg, Nat.lt_of_lt_of_le hg hb.size⟩
  have HG := Bx.mk hg
  clear hTab hg
  have HCm := Bx.mk (cut6_any m0 70 vm w hm hml (by omega))
  have HMl : Bx ((m0.take 70).length ≤ 70) := Bx.mk (by rw [List.length_take]; omega)
  have HV := Bx.mk hm
  have HO := Bx.mk hO
  have HOl := Bx.mk hol
  obtain ⟨hs1, hs2⟩ := hs
  obtain ⟨am, cm, rfl, -⟩ := hm
  obtain ⟨al, cl, rfl, -⟩ := hO
  obtain ⟨nl, hnl⟩ : ∃ n, os.length = n := ⟨_, rfl⟩
  have HNl := Bx.mk hnl
  rw [hnl] at HO ⊢
  clear hnl hml hol
  generalize m0.take 70 = mk at *
  generalize m0.length = mn at *
  obtain ⟨B, hB⟩ : ∃ B, w.heap.size = B := ⟨_, rfl⟩
  have HB := Bx.mk hB
  rw [hB] at HT HG ⊢
  clear hB
  go_enter Tryd.func6, Tryd.ntmps6
  go_wp2_with fail
  refine HCm.out.mono ?_
  rintro e w1 ⟨v1, rfl, hm1, rfl⟩
  have HM := Bx.mk (hm1 w HV.out)
  clear hm1 HCm HV
  obtain ⟨am, cm, hv1, -⟩ := HM.out
  subst hv1
  by_cases h16 : mk.length < 16
  · have HNb := Bx.mk (mnew_bad mk _ w HM.out h16)
    generalize mk.length = kn at *
    have t1 : (kn : Int) < 16 := by omega
    go_wp2_with fail
    refine HNb.out.mono ?_
    rintro e w1 ⟨rfl, rfl⟩
    go_wp2_with fail
    refine (known6_any w (HT.out w (by rw [← HB.out]; exact Below.refl _ _)).1 (HT.out w (by rw [← HB.out]; exact Below.refl _ _)).2).mono ?_
    rintro e w6 ⟨rfl, hb⟩
    rw [HB.out] at hb
    have BL6 := Bx.mk hb
    clear hb
    go_wp2
    go_ret
    exact ⟨rfl, BL6.out⟩
  · have HNo := Bx.mk (mnew_ok mk _ w HM.out (by omega) (by have := HMl.out; omega))
    have HKl : Bx (∀ (W : World) v, IsKey W v mk → Calls Tryd.prog 26 #[v] W fun e w' => ∃ v', e = .returned v' ∧ OwnB w' W.heap.size v' mk ∧ Below W.heap.size W w') := Bx.mk fun W v hv => kbytes_any mk v W hv (by have := HMl.out; omega)
    have HSa : Bx (∀ (W : World) va vb, Bytes W va mk → Bytes W vb mk → Calls Tryd.prog 22 #[va, vb] W fun e w' => e = .returned (.bool true) ∧ Below W.heap.size W w') := Bx.mk fun W va vb ha hb => (same_any mk mk va vb W ha hb (by have := HMl.out; omega) (by have := HMl.out; omega)).mono fun _ _ ⟨he, n, hw⟩ => ⟨by rw [he, decide_eq_true rfl], by rw [hw]; exact below_drewN (Below.refl _ _) _⟩
    have HMa : Bx (∀ (M : Nat) (W : World) l, MT W M l mk → Calls Tryd.prog 30 #[.pointer (some ⟨M, 0, none⟩)] W fun e w' => ∃ v', e = .returned v' ∧ KeyO w' W.heap.size v' mk ∧ Below W.heap.size W w') := Bx.mk fun M W l h => master_any M l mk W h (by have := HMl.out; omega)
    have HKm : Bx (mk.length ≤ 1000000) := Bx.mk (by have := HMl.out; omega)
    have t16 : ¬ ((mk.length : Int) < 16) := by omega
    obtain ⟨kn, hkn⟩ : ∃ n, mk.length = n := ⟨_, rfl⟩
    rw [hkn] at t16 HNo HM
    go_wp2_with fail
    refine HNo.out.mono ?_
    rintro e w1 ⟨M, rfl, hm1, hM, hb1⟩
    have H1 := Bx.mk (And.intro hm1 (And.intro hM hb1))
    clear hm1 hM hb1 HNo
    go_wp2_with fail
    refine (HMa.out M w1 [] H1.out.1).mono ?_
    rintro e w2 ⟨vk, rfl, hk2, hb2⟩
    have H2 := Bx.mk (And.intro (H1.out.1.later hb2) (And.intro H1.out.2.1 (And.intro (H1.out.2.2.trans (hb2.mono H1.out.2.2.size)) hk2.key)))
    clear hk2 hb2 H1
    go_wp2_with fail
    refine (HKl.out w2 vk H2.out.2.2.2).mono ?_
    rintro e w3 ⟨vb, rfl, ho3, hb3⟩
    have H3 := Bx.mk (And.intro (H2.out.1.later hb3) (And.intro H2.out.2.1 (And.intro (H2.out.2.2.1.trans (hb3.mono H2.out.2.2.1.size)) ho3.bytes)))
    obtain ⟨ab, cb, hvb⟩ := own_form ho3
    rw [hkn] at hvb
    subst hvb
    clear ho3 hb3 H2
    go_wp2_with fail
    refine (HSa.out w3 _ _ H3.out.2.2.2 (HM.out.later H3.out.2.2.1)).mono ?_
    rintro e w4 ⟨rfl, hb4⟩
    have H4 := Bx.mk (And.intro (H3.out.1.later hb4) (And.intro H3.out.2.1 (H3.out.2.2.1.trans (hb4.mono H3.out.2.2.1.size))))
    clear hb4 H3
    obtain ⟨v1, hk1⟩ := KM.start H4.out.1
    have H5 := Bx.mk hk1
    clear hk1
    have HW := Bx.mk H4.out.2
    clear H4
    go_wp2
    refine loopI w w4 M os v1 mk al nl cl s HO.out HNl.out HW.out.2 HW.out.1 (by have h1 := HOl.out; have h2 := HNl.out; omega) HKm.out (HT.out w4 (by rw [← HB.out]; exact HW.out.2)).1 (HT.out w4 (by rw [← HB.out]; exact HW.out.2)).2 (by have h1 := HG.out; have h2 := HW.out.1; have h3 := HB.out; omega) _ _ _ ⟨⟨⟨rfl, rfl⟩, rfl, rfl, rfl⟩, rfl, _, rfl, ⟨H5.out, OwnC.nil _ _, fun _ hx => (List.not_mem_nil hx).elim⟩⟩ ?_
    intro kk a' w5 hk8 hIL
    obtain ⟨va, hva, hIR⟩ := hIL.st
    have hIM : IM w4 M [] (isK os kk) v1 mk va (isK os kk) w5 := hIR
    have HLn : Bx ((isK os kk).length ≤ 8) := Bx.mk (Nat.le_trans (isK_length os kk) hk8)
    generalize isK os kk = l at *
    obtain ⟨a9, c9', hva9⟩ := hIM.own.form
    have HIM := Bx.mk hIM
    have BL : Bx (∀ W, w4.grownBy W (some M) → Below B w W) := Bx.mk fun W hgr => by
      rw [← HB.out]
      exact HW.out.2.trans (grown_below hgr HW.out.1 HW.out.2.size)
    subst hva9
    obtain ⟨x, rfl, hx⟩ := open179 hIL.kf.fr
    have e1 := (hx 1).symm.trans hIL.kf.s1
    have e2 := (hx 2).symm.trans hIL.kf.s2
    have e7 := (hx 7).symm.trans hIL.kf.s7
    have e9 := (hx 9).symm.trans hva
    clear hIL hx hva hIR hIM H5 HSa HKl HMa
    rw [e1, e2, e7, e9]
    clear e1 e2 e7 e9
    have hl8 := HLn.out
    generalize hla : l.length = la at *
    have HLa := Bx.mk hla
    have hla8 : (la : Int) ≤ 8 := by omega
    clear hla hl8
    by_cases hz : s < 1 ∨ (la : Int) < s
    · have HF := Bx.mk (find_none M l mk s w5 HIM.out.km.mt (by rw [HLa.out]; exact hz))
      unfold clV c0 at HF
      simp only at HF
      go_wp2_with fail
      refine HF.out.mono ?_
      rintro e w6 ⟨rfl, hb⟩
      have H6 := Bx.mk ((HIM.out.km.later hb).later (below_a (.cells #[.int .i64 0, .int .i64 0, .int .i64 0, .int .i64 0] 36)))
      clear hb HF HIM
      have BL5 := Bx.mk (BL.out _ H6.out.grown)
      rcases hz with h1 | h1
      · have t1 : s < 1 := h1
        go_wp2_with fail
        generalize w6.alloc (.cells #[.int .i64 0, .int .i64 0, .int .i64 0, .int .i64 0] 36) = w7 at *
        refine (known6_any w7 (HT.out w7 BL5.out).1 (HT.out w7 BL5.out).2).mono ?_
        rintro e w8 ⟨rfl, hb⟩
        have H8 := Bx.mk (BL.out _ (H6.out.later hb).grown)
        clear hb
        go_wp2
        go_ret
        exact ⟨rfl, H8.out⟩
      · have t1 : (la : Int) < s := h1
        have t0 : ¬ s < 1 := by omega
        go_wp2_with fail
        generalize w6.alloc (.cells #[.int .i64 0, .int .i64 0, .int .i64 0, .int .i64 0] 36) = w7 at *
        refine (known6_any w7 (HT.out w7 BL5.out).1 (HT.out w7 BL5.out).2).mono ?_
        rintro e w8 ⟨rfl, hb⟩
        have H8 := Bx.mk (BL.out _ (H6.out.later hb).grown)
        clear hb
        go_wp2
        go_ret
        exact ⟨rfl, H8.out⟩
    · obtain ⟨k, hk⟩ : ∃ k : Nat, s = (k : Int) + 1 := ⟨(s - 1).toNat, by omega⟩
      have hkl : k < la := by omega
      have HF := Bx.mk (find_ok M l mk k w5 HIM.out.km.mt (by rw [HLa.out]; exact hkl) (by have := HLn.out; have := HLa.out; omega))
      obtain ⟨g, cg, hvg, hrg⟩ := HIM.out.own.at_ k (by rw [HLa.out]; exact hkl)
      injection hvg with q1 q2 q3
      subst q1
      have HRg := Bx.mk hrg
      rw [← hk] at HF
      generalize l.getD k c0 = cc at *
      have hself := fun W : World => self_cl_eql 36 (.inl rfl) cc W
      obtain ⟨i, r, x, q⟩ := cc
      unfold clV at HF
      unfold clC at HRg hself
      simp only at HF HRg hself
      clear hrg q2 q3
      have t0 : ¬ (s < 1) := by omega
      have t1 : ¬ ((la : Int) < s) := by omega
      have hwr : IntKind.i64.wrap (s - 1) = (k : Int) := by rw [IntKind.wrap_i64]; omega
      have t2 : (k : Int) < (la : Int) := by omega
      clear hk hz
      go_wp2_with fail
      refine HF.out.mono ?_
      rintro e w6 ⟨rfl, hb⟩
      have H6 := Bx.mk (And.intro ((HIM.out.km.later hb).new (.cells #[.int .i64 i, .int .i64 r, .int .i64 x, .int .i64 q] 36)) (range_later (range_later HRg.out hb (World.block_lt_of_cell? _ _ (HRg.out 0 _ rfl))) (below_a (.cells #[.int .i64 i, .int .i64 r, .int .i64 x, .int .i64 q] 36)) (Nat.lt_of_lt_of_le (World.block_lt_of_cell? _ _ (HRg.out 0 _ rfl)) hb.size)))
      clear hb HF HIM
      go_upto_region 23 with fail
      generalize w6.alloc (.cells #[.int .i64 i, .int .i64 r, .int .i64 x, .int .i64 q] 36) = w7 at *
      generalize w6.heap.size = T at *
      have R0 := Bx.mk (And.intro H6.out.1.drew (range_later H6.out.2 (Below.refl _ w7).drew (World.block_lt_of_cell? _ _ (H6.out.2 0 _ rfl))))
      clear H6
      refine wp_region_noPanic ?_
      refine wp_region_held_drew (S := fun W => W.heap[T]? = some (.cells #[.int .i64 i, .int .i64 r, .int .i64 x, .int .i64 q] 36 (0, 0)) ∧ W.rangeAt g (k * 4) [.int .i64 i, .int .i64 r, .int .i64 x, .int .i64 q]) (by kernel_rfl) (⟨(R0.out.1.rows _ (.head _)).1, R0.out.2⟩) (fun hHeld => ?_)
      generalize w7.drew = W0 at *
      refine stepL 0 (by kernel_rfl) rfl (fun K hK => ?_)
      go_simp
      refine (known6_any W0 (HT.out W0 (BL.out _ R0.out.1.grown)).1 (HT.out W0 (BL.out _ R0.out.1.grown)).2).mono ?_
      rintro e W1 ⟨rfl, hb⟩
      show K _ _
      have R1 := Bx.mk (And.intro (R0.out.1.later hb) (range_later R0.out.2 hb (World.block_lt_of_cell? _ _ (R0.out.2 0 _ rfl))))
      clear hb R0
      refine hK.out _ _ ⟨(R1.out.1.rows _ (.head _)).1, R1.out.2⟩ (fun hHeld => ?_)
      clear hK K
      try simp only [Act.put, List.setIfInBounds_toArray, List.set_cons_zero, List.set_cons_succ]
      refine takeL 1 (v := ?_) rfl (by kernel_rfl) (by kernel_rfl) (by kernel_rfl) (fun _ _ _ h => h) (Or.inl ⟨by rfl, ?_⟩) hHeld ?_
      rotate_left 1
      · (intro w hSw; go_simp; try with_reducible rfl)
      try simp only [Act.put, List.setIfInBounds_toArray, List.set_cons_zero, List.set_cons_succ]
      refine takeL 2 (v := ?_) rfl (by kernel_rfl) (by kernel_rfl) (by kernel_rfl) (fun _ _ _ h => h) (Or.inl ⟨by rfl, ?_⟩) hHeld ?_
      rotate_left 1
      · (intro w hSw; go_simp; try with_reducible rfl)
      try simp only [Act.put, List.setIfInBounds_toArray, List.set_cons_zero, List.set_cons_succ]
      refine takeL 3 (v := ?_) rfl (by kernel_rfl) (by kernel_rfl) (by kernel_rfl) (fun _ _ _ h => h) (Or.inl ⟨by rfl, ?_⟩) hHeld ?_
      rotate_left 1
      · (intro w hSw; go_simp; try with_reducible rfl)
      try simp only [Act.put, List.setIfInBounds_toArray, List.set_cons_zero, List.set_cons_succ]
      refine takeL 4 (v := ?_) rfl (by kernel_rfl) (by kernel_rfl) (by kernel_rfl) (fun _ _ _ h => h) (Or.inl ⟨by rfl, ?_⟩) hHeld ?_
      rotate_left 1
      · (intro w hSw; go_simp; try with_reducible rfl)
      try simp only [Act.put, List.setIfInBounds_toArray, List.set_cons_zero, List.set_cons_succ]
      refine takeL 5 (v := ?_) rfl (by kernel_rfl) (by kernel_rfl) (by kernel_rfl) (fun _ _ _ h => h) (Or.inl ⟨by rfl, ?_⟩) hHeld ?_
      rotate_left 1
      · (intro w hSw; go_simp; try with_reducible rfl)
      try simp only [Act.put, List.setIfInBounds_toArray, List.set_cons_zero, List.set_cons_succ]
      refine takeL 6 rfl (by kernel_rfl) (by kernel_rfl) (by kernel_rfl) (fun _ _ _ h => h) (yieldsIf_load_mid (by rfl) _ _ rfl _ _ rfl _ _ (fun w hSw => row_rng (l := [.int .i64 i, .int .i64 r, .int .i64 x, .int .i64 q]) hSw.1) Tryd.underlying36 rfl (by kernel_rfl)) hHeld ?_
      try simp only [Act.put, List.setIfInBounds_toArray, List.set_cons_zero, List.set_cons_succ]
      refine takeL 7 (v := ?_) rfl (by kernel_rfl) (by kernel_rfl) (by kernel_rfl) (fun _ _ _ h => h) (Or.inl ⟨by rfl, ?_⟩) hHeld ?_
      rotate_left 1
      · (intro w hSw; go_simp; try with_reducible rfl)
      try simp only [Act.put, List.setIfInBounds_toArray, List.set_cons_zero, List.set_cons_succ]
      refine takeL 8 (v := ?_) rfl (by kernel_rfl) (by kernel_rfl) (by kernel_rfl) (fun _ _ _ h => h) (Or.inl ⟨by rfl, ?_⟩) hHeld ?_
      rotate_left 1
      · (intro w hSw; go_simp; try with_reducible rfl)
      try simp only [Act.put, List.setIfInBounds_toArray, List.set_cons_zero, List.set_cons_succ]
      refine takeL 9 (v := ?_) rfl (by kernel_rfl) (by kernel_rfl) (by kernel_rfl) (fun _ _ _ h => h) (Or.inl ⟨by rfl, ?_⟩) hHeld ?_
      rotate_left 1
      · (intro w hSw; go_simp; try with_reducible rfl)
      try simp only [Act.put, List.setIfInBounds_toArray, List.set_cons_zero, List.set_cons_succ]
      refine takeL 10 (v := ?_) rfl (by kernel_rfl) (by kernel_rfl) (by kernel_rfl) (fun _ _ _ h => h) (Or.inl ⟨by rfl, ?_⟩) hHeld ?_
      rotate_left 1
      · (intro w hSw; go_simp; try with_reducible rfl)
      try simp only [Act.put, List.setIfInBounds_toArray, List.set_cons_zero, List.set_cons_succ]
      refine takeL 11 rfl (by kernel_rfl) (by kernel_rfl) (by kernel_rfl) (fun _ _ _ h => h) (yieldsIf_load_mid (by rfl) _ _ rfl _ _ rfl _ _ (fun w hSw => hSw.2) Tryd.underlying36 rfl (by kernel_rfl)) hHeld ?_
      try simp only [Act.put, List.setIfInBounds_toArray, List.set_cons_zero, List.set_cons_succ]
      refine takeL 12 (v := ?_) rfl (by kernel_rfl) (by kernel_rfl) (by kernel_rfl) (fun _ _ _ h => h) (Or.inl ⟨by rfl, ?_⟩) hHeld ?_
      rotate_left 1
      · (intro w hSw; go_simp; try with_reducible rfl)
      try simp only [Act.put, List.setIfInBounds_toArray, List.set_cons_zero, List.set_cons_succ]
      refine takeL 13 (v := ?_) rfl (by kernel_rfl) (by kernel_rfl) (by kernel_rfl) (fun _ _ _ h => h) (Or.inl ⟨by rfl, ?_⟩) hHeld ?_
      rotate_left 1
      · (intro w hSw; go_simp; try with_reducible rfl)
      try simp only [Act.put, List.setIfInBounds_toArray, List.set_cons_zero, List.set_cons_succ]
      refine takeL 14 (v := ?_) rfl (by kernel_rfl) (by kernel_rfl) (by kernel_rfl) (fun _ _ _ h => h) (Or.inl ⟨by rfl, ?_⟩) hHeld ?_
      rotate_left 1
      · (intro w hSw; go_simp; try with_reducible rfl)
      try simp only [Act.put, List.setIfInBounds_toArray, List.set_cons_zero, List.set_cons_succ]
      refine wpAnyH_done (by kernel_rfl) ?_ _
      refine NoPanic.normal ?_
      clear hHeld
      try go_wp2
      go_ret
      exact ⟨rfl, BL.out _ R1.out.1.grown⟩
end Go.Proofs.YtiengbmnfbbgoaaDoor
