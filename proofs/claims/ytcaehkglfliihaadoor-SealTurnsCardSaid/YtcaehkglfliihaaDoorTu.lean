/-
  The walk of the statement on something turned.
-/
import Derived.Test.YtcaehkglfliihaaDoorTd
namespace Go.Proofs.YtcaehkglfliihaaDoor
open Go Go.RowKit
theorem OwnB.bnx {W : World} {base g : Nat} {v : Value} {l : List UInt8} (h : OwnB W base v l) (hne : v.ownBlock ≠ some g) : BN W g v l := by
  have hb := h.bytes
  rcases h.form with ⟨rfl, rfl⟩ | ⟨B, cap, rfl⟩
  · exact ⟨hb, none, 0, rfl, by simp, fun h => absurd h (by simp)⟩
  · exact hb.bn (fun e => hne (by rw [e]; rfl))
theorem none_below {W W1 : World} (hk : W.grownBy W1 none) : Below W.heap.size W W1 := ⟨hk.os, hk.tape, hk.output, hk.size, fun i hi => hk.block i hi (by intro e; cases e)⟩
theorem grown_bytes {W W1 : World} {vo x : Value} {m : List UInt8} (hk : W.grownBy W1 vo.ownBlock) (h : Bytes W x m) (hb : ∀ g, vo.ownBlock = some g → BN W g x m) : Bytes W1 x m := by
  cases e : vo.ownBlock with
  | none => rw [e] at hk; exact h.later (none_below hk)
  | some g => rw [e] at hk; exact ((hb g e).later hk).1
theorem grown_key {W W1 : World} {vo pk : Value} {b1 : Nat} {key : List UInt8} (hk : W.grownBy W1 vo.ownBlock) (h : KeyO W b1 pk key) (hb : ∀ g, vo.ownBlock = some g → g < b1) : IsKey W1 pk key := by
  cases e : vo.ownBlock with
  | none => rw [e] at hk; exact h.key.later (none_below hk)
  | some g =>
    rw [e] at hk
    have hlt := hb g e
    obtain ⟨p, s, hv, hp, hr, ho⟩ := h
    exact ⟨p, s, hv, by rw [hk.block _ (Array.getElem?_eq_some_iff.1 hr).1 (by intro e; injection e with e; omega)]; exact hr, ((ho.bnx (g := g) (fun e2 => by have := (ho.lt _ e2).2; omega)).later hk).1⟩
theorem grown_tab {W W1 : World} {vo : Value} (hk : W.grownBy W1 vo.ownBlock) (h : Tab W) (hb : ∀ g, vo.ownBlock = some g → 0 < g) (hs : 0 < W.heap.size) : Tab W1 := by
  cases e : vo.ownBlock with
  | none => rw [e] at hk; exact h.later (none_below hk) hs
  | some g =>
    rw [e] at hk
    intro i hi
    have hlt := hb g e
    exact hk.cell (h i hi) (by simp; omega)
/-- What there is ahead of turning something. -/
structure TSt (w : World) (B1 B2 B3 : Nat) (vn vd vx pk : Value) (ky no bo s : List UInt8) (W : World) : Prop where
  below : Below w.heap.size w W
  tab : Tab W
  nn : OwnB W w.heap.size vn no
  nlt : ∀ g, vn.ownBlock = some g → g < B1
  dd : OwnB W B1 vd bo
  dlt : ∀ g, vd.ownBlock = some g → g < B2
  kk : KeyO W B2 pk ky
  klt : IsKey W pk ky
  xx : OwnB W B3 vx s
  l1 : w.heap.size ≤ B1
  l2 : B1 ≤ B2
  l3 : B2 ≤ B3
/-- What there is behind it. -/
structure TE (w : World) (vn vd vx pk : Value) (ky no bo x : List UInt8) (W : World) : Prop where
  below : Below w.heap.size w W
  tab : Tab W
  nn : Bytes W vn no
  dd : Bytes W vd bo
  xx : Bytes W vx x
  kk : IsKey W pk ky
theorem TE.later {w : World} {vn vd vx pk : Value} {ky no bo x : List UInt8} {W W1 : World} (hg : 0 < w.heap.size) (h : TE w vn vd vx pk ky no bo x W) (hb : Below W.heap.size W W1) : TE w vn vd vx pk ky no bo x W1 :=
  ⟨h.below.trans (hb.mono h.below.size), h.tab.later hb (Nat.lt_of_lt_of_le hg h.below.size), h.nn.later hb, h.dd.later hb, h.xx.later hb, h.kk.later hb⟩
theorem TSt.one {w : World} {B1 B2 B3 : Nat} {vn vd vx pk v' : Value} {ky no bo s no' : List UInt8} {W W1 : World} (hg : 0 < w.heap.size) (h : TSt w B1 B2 B3 vn vd vx pk ky no bo s W) (ho : OwnB W1 w.heap.size v' no') (hk : W.grownBy W1 vn.ownBlock) : TE w v' vd vx pk ky no' bo s W1 :=
  ⟨h.below.trans (own_below h.nn hk h.below.size), grown_tab hk h.tab (fun g e => by have := (h.nn.lt g e).2; omega) (Nat.lt_of_lt_of_le hg h.below.size), ho.bytes,
    grown_bytes hk h.dd.bytes (fun g e => h.dd.bnx (fun e2 => by have h1 := (h.dd.lt g e2).2; have h2 := h.nlt g e; omega)),
    grown_bytes hk h.xx.bytes (fun g e => h.xx.bnx (fun e2 => by have h1 := (h.xx.lt g e2).2; have h2 := h.nlt g e; have := h.l2; have := h.l3; omega)),
    grown_key hk h.kk (fun g e => by have h2 := h.nlt g e; have := h.l2; omega)⟩
theorem TSt.two {w : World} {B1 B2 B3 : Nat} {vn vd vx pk v' : Value} {ky no bo s bo' : List UInt8} {W W1 : World} (hg : 0 < w.heap.size) (h : TSt w B1 B2 B3 vn vd vx pk ky no bo s W) (ho : OwnB W1 B1 v' bo') (hk : W.grownBy W1 vd.ownBlock) (hB : B1 ≤ W.heap.size) : TE w vn v' vx pk ky no bo' s W1 :=
  ⟨h.below.trans ((own_below h.dd hk hB).mono h.l1), grown_tab hk h.tab (fun g e => by have := (h.dd.lt g e).2; have := h.l1; omega) (Nat.lt_of_lt_of_le hg h.below.size),
    grown_bytes hk h.nn.bytes (fun g e => h.nn.bnx (fun e2 => by have h1 := (h.dd.lt g e).2; have h2 := h.nlt g e2; omega)), ho.bytes,
    grown_bytes hk h.xx.bytes (fun g e => h.xx.bnx (fun e2 => by have h1 := (h.xx.lt g e2).2; have h2 := h.dlt g e; have := h.l3; omega)),
    grown_key hk h.kk (fun g e => h.dlt g e)⟩
theorem TSt.later {w : World} {B1 B2 B3 : Nat} {vn vd vx pk : Value} {ky no bo s : List UInt8} {W W1 : World} (hg : 0 < w.heap.size) (h : TSt w B1 B2 B3 vn vd vx pk ky no bo s W) (hb : Below W.heap.size W W1) : TSt w B1 B2 B3 vn vd vx pk ky no bo s W1 :=
  ⟨h.below.trans (hb.mono h.below.size), h.tab.later hb (Nat.lt_of_lt_of_le hg h.below.size), h.nn.later hb (fun g e => (h.nn.lt g e).1), h.nlt, h.dd.later hb (fun g e => (h.dd.lt g e).1), h.dlt, h.kk.later hb, h.klt.later hb, h.xx.later hb (fun g e => (h.xx.lt g e).1), h.l1, h.l2, h.l3⟩
theorem wrap_nonneg (z : Int) : (0 : Int) ≤ IntKind.u64.wrap z := by
  have h : IntKind.u64.wrap z = z % 18446744073709551616 := rfl
  rw [h]
  omega
theorem openF_two (key nonce bound sl : List UInt8) (h1 : nonce.length ≤ 32) (h2 : 32 ≤ sl.length) : (openF key nonce bound sl).1 = 0 ∨ ((openF key nonce bound sl).1 = 5 ∧ (openF key nonce bound sl).2 = []) := by
  unfold openF
  rw [if_neg (by omega), if_neg (by omega)]
  split
  · exact Or.inl rfl
  · exact Or.inr ⟨rfl, rfl⟩
set_option maxRecDepth 100000 in
set_option maxHeartbeats 4000000 in
theorem turns_any (key nonce bound b0 : List UInt8) (y : UInt8) (zat zwh : Int) (vk vn0 vd0 vb0 : Value) (w : World) (hk : Bytes w vk key) (hn : Bytes w vn0 nonce) (hd : Bytes w vd0 bound) (hs : Bytes w vb0 b0) (hkl : key.length ≤ 9223372036854775807) (hnl : nonce.length ≤ 9223372036854775807) (hdl : bound.length ≤ 9223372036854775807) (hsl : b0.length ≤ 9223372036854775807)
    (ha1 : -9223372036854775808 ≤ zat) (ha2 : zat ≤ 9223372036854775807) (hw1 : -9223372036854775808 ≤ zwh) (hw2 : zwh ≤ 9223372036854775807) (hTab : Tab w) (hg : 0 < w.heap.size) :
    Calls Tryd.prog 6 #[vk, vn0, vd0, vb0, .int .i64 zat, .int .u8 (ub y), .int .i64 zwh] w fun e w' => e = .returned (.bool true) ∧ Below w.heap.size w w' := by
  have HV := Bx.mk (And.intro hk (And.intro hn (And.intro hd hs)))
  have HL := Bx.mk (And.intro hkl (And.intro hnl (And.intro hdl hsl)))
  have HA := Bx.mk hTab
  clear hk hn hd hs hkl hnl hdl hsl hTab
  go_enter Tryd.func6, Tryd.ntmps6
  go_wp2_with fail
  refine (cut3_any key 60 _ _ HV.out.1 HL.out.1 (by omega)).mono ?_
  rintro e w0_ ⟨v0, rfl, hc, hw0⟩
  subst w0_
  have C0 : Bx (Bytes w v0 (key.take 60) ∧ (key.take 60).length ≤ 60) := Bx.mk ⟨hc, by rw [List.length_take]; omega⟩
  obtain ⟨a0, c0, hv, -⟩ := hc
  obtain ⟨n0, hn⟩ : ∃ n, (key.take 60).length = n := ⟨_, rfl⟩
  have HN0 := Bx.mk hn
  rw [hn] at hv
  subst hv
  clear hn
  generalize key.take 60 = ky at *
  go_wp2_with fail
  have HE1 : Bx (OwnB (w.alloc (.cells #[] 5)) w.heap.size (.slice (some ⟨w.heap.size, 0, none⟩) 0 0) [] ∧ Below w.heap.size w (w.alloc (.cells #[] 5))) := Bx.mk ⟨own_empty _ _ (Nat.le_refl _), below_a _⟩
  generalize w.alloc (.cells #[] 5) = wA at *
  refine (cut3_any nonce 30 _ _ (HV.out.2.1.later HE1.out.2) HL.out.2.1 (by omega)).mono ?_
  rintro e w1_ ⟨v1, rfl, hc, hw1⟩
  subst w1_
  have C1 : Bx (Bytes wA v1 (nonce.take 30) ∧ (nonce.take 30).length ≤ 30) := Bx.mk ⟨hc, by rw [List.length_take]; omega⟩
  obtain ⟨a1, c1, hv, -⟩ := hc
  obtain ⟨n1, hn⟩ : ∃ n, (nonce.take 30).length = n := ⟨_, rfl⟩
  have HN1 := Bx.mk hn
  rw [hn] at hv
  subst hv
  clear hn
  generalize nonce.take 30 = no at *
  go_wp2_with (refine wpList_ap rfl _ _ rfl w.heap.size _ [] (by rfl) HE1.out.1 _ no (by rfl) C1.out.1 (by have := C1.out; simp; omega) HE1.out.2.size ?_; intro vn w1 ho1 hg1 _; have H1 : Bx (OwnB w1 w.heap.size vn no ∧ Below w.heap.size w w1) := Bx.mk ⟨ho1, HE1.out.2.trans (own_below HE1.out.1 hg1 HE1.out.2.size)⟩; clear ho1 hg1)
  have HE2 : Bx (OwnB (w1.alloc (.cells #[] 5)) w1.heap.size (.slice (some ⟨w1.heap.size, 0, none⟩) 0 0) [] ∧ Below w1.heap.size w1 (w1.alloc (.cells #[] 5))) := Bx.mk ⟨own_empty _ _ (Nat.le_refl _), below_a _⟩
  clear HE1
  have HNo : Bx (no.length ≤ 30) := Bx.mk C1.out.2
  obtain ⟨an, cn, hvn, -⟩ := H1.out.1.bytes
  obtain ⟨nn, hnn⟩ : ∃ n, no.length = n := ⟨_, rfl⟩
  have HNn := Bx.mk hnn
  rw [hnn] at hvn
  subst hvn
  clear hnn C1
  generalize w1.alloc (.cells #[] 5) = wB at *
  refine (cut3_any bound 60 _ _ ((HV.out.2.2.1.later H1.out.2).later HE2.out.2) HL.out.2.2.1 (by omega)).mono ?_
  rintro e w2_ ⟨v2, rfl, hc, hw2⟩
  subst w2_
  have C2 : Bx (Bytes wB v2 (bound.take 60) ∧ (bound.take 60).length ≤ 60) := Bx.mk ⟨hc, by rw [List.length_take]; omega⟩
  obtain ⟨a2, c2, hv, -⟩ := hc
  obtain ⟨n2, hn⟩ : ∃ n, (bound.take 60).length = n := ⟨_, rfl⟩
  have HN2 := Bx.mk hn
  rw [hn] at hv
  subst hv
  clear hn
  generalize bound.take 60 = bo at *
  go_wp2_with (refine wpList_ap rfl _ _ rfl w1.heap.size _ [] (by rfl) HE2.out.1 _ bo (by rfl) C2.out.1 (by have := C2.out; simp; omega) HE2.out.2.size ?_; intro vd w2 ho2 hg2 _; have H2 : Bx (OwnB w2 w1.heap.size vd bo ∧ Below w1.heap.size w1 w2) := Bx.mk ⟨ho2, HE2.out.2.trans (own_below HE2.out.1 hg2 HE2.out.2.size)⟩; clear ho2 hg2)
  clear HE2
  have HBo : Bx (bo.length ≤ 60) := Bx.mk C2.out.2
  obtain ⟨ad, cd, hvd, -⟩ := H2.out.1.bytes
  obtain ⟨nd, hnd⟩ : ∃ n, bo.length = n := ⟨_, rfl⟩
  have HNd := Bx.mk hnd
  rw [hnd] at hvd
  subst hvd
  clear hnd C2
  have H12 : Bx (Below w.heap.size w w2) := Bx.mk (H1.out.2.trans (H2.out.2.mono H1.out.2.size))
  go_wp2_with fail
  refine (cut3_any b0 60 _ _ (HV.out.2.2.2.later H12.out) HL.out.2.2.2 (by omega)).mono ?_
  rintro e w3_ ⟨v3, rfl, hc, hw3⟩
  subst w3_
  have C3 : Bx (Bytes w2 v3 (b0.take 60) ∧ (b0.take 60).length ≤ 60) := Bx.mk ⟨hc, by rw [List.length_take]; omega⟩
  obtain ⟨a3, c3, hv, -⟩ := hc
  obtain ⟨n3, hn⟩ : ∃ n, (b0.take 60).length = n := ⟨_, rfl⟩
  have HN3 := Bx.mk hn
  rw [hn] at hv
  subst hv
  clear hn
  generalize b0.take 60 = b at *
  have hn3z : (n3 : Int) ≤ 60 := by have h1 := HN3.out; have h2 := C3.out; omega
  go_wp2_with fail
  refine (new_any ky _ w2 (C0.out.1.later H12.out) (by have := C0.out; omega)).mono ?_
  rintro e w3 ⟨vk3, rfl, hk3, hb3⟩
  have H3 : Bx (KeyO w3 w2.heap.size vk3 ky ∧ Below w2.heap.size w2 w3) := Bx.mk ⟨hk3, hb3⟩
  obtain ⟨pk, rfl⟩ := hk3.key.form
  have H13 : Bx (Below w.heap.size w w3) := Bx.mk (H12.out.trans (hb3.mono H12.out.size))
  clear hk3 hb3
  have H23 : Bx (Below w1.heap.size w1 w3) := Bx.mk (H2.out.2.trans (H3.out.2.mono H2.out.2.size))
  go_wp2_with fail
  refine (seal_ok ky no bo b _ _ _ _ w3 H3.out.1.key (H1.out.1.bytes.later H23.out) (H2.out.1.bytes.later H3.out.2) (C3.out.1.later H3.out.2) (by have := C0.out; omega) (by have := HNo.out; omega) (by have := HBo.out; omega) (by have := C3.out; omega) (HA.out.later H13.out hg) (Nat.lt_of_lt_of_le hg H13.out.size)).mono ?_
  rintro e w4 ⟨vs, rfl, ho4, hb4⟩
  have HSl : Bx ((sealB ky no bo b).length = n3 + 32) := Bx.mk (by rw [sealB_length, HN3.out])
  generalize sealB ky no bo b = s at *
  have H4 : Bx (OwnB w4 w3.heap.size vs s ∧ Below w3.heap.size w3 w4) := Bx.mk ⟨ho4, hb4⟩
  obtain ⟨as4, cs4, hvs, -⟩ := ho4.bytes
  rw [HSl.out] at hvs
  subst hvs
  clear ho4 hb4
  obtain ⟨ns, hns⟩ : ∃ n, n3 + 32 = n := ⟨_, rfl⟩
  rw [hns] at HSl H4 ⊢
  have hns1 : (32 : Int) ≤ (ns : Int) := by omega
  have hns2 : (ns : Int) ≤ 92 := by omega
  have hne0 : ((ns : Int) == 0) = false := by simp; omega
  have hor : bits .or .u8 (ub y) 1 = ub (y ||| 1) := ub_or y 1
  have hy1 := ub_nonneg (y ||| 1)
  have hy2 := ub_le (y ||| 1)
  have HNs := Bx.mk hns
  clear hns
  have HE5 : Bx (OwnB (w4.alloc (.cells #[] 5)) w4.heap.size (.slice (some ⟨w4.heap.size, 0, none⟩) 0 0) [] ∧ Below w4.heap.size w4 (w4.alloc (.cells #[] 5))) := Bx.mk ⟨own_empty _ _ (Nat.le_refl _), below_a _⟩
  go_upto_region 8 with (refine wpList_ap rfl _ _ rfl w4.heap.size _ [] (by rfl) HE5.out.1 _ s (by rfl) (H4.out.1.bytes.later HE5.out.2) (by have := HSl.out; simp; omega) HE5.out.2.size ?_; intro vx w5 ho5 hg5 _; have H5 : Bx (OwnB w5 w4.heap.size vx s ∧ Below w4.heap.size w4 w5) := Bx.mk ⟨ho5, HE5.out.2.trans (own_below HE5.out.1 hg5 HE5.out.2.size)⟩; clear ho5 hg5)
  obtain ⟨ax, cx, hvx, -⟩ := H5.out.1.bytes
  rw [HSl.out] at hvx
  subst hvx
  have HT : Bx (TSt w w1.heap.size w2.heap.size w4.heap.size (.slice an nn cn) (.slice ad nd cd) (.slice ax ns cx) (.pointer (some ⟨pk, 0, none⟩)) ky no bo s w5 ∧ w1.heap.size ≤ w5.heap.size) := Bx.mk (by
    have b35 : Below w3.heap.size w3 w5 := H4.out.2.trans (H5.out.2.mono H4.out.2.size)
    have b25 : Below w2.heap.size w2 w5 := H3.out.2.trans (b35.mono H3.out.2.size)
    have b15 : Below w1.heap.size w1 w5 := H2.out.2.trans (b25.mono H2.out.2.size)
    have b05 : Below w.heap.size w w5 := H1.out.2.trans (b15.mono H1.out.2.size)
    exact ⟨⟨b05, HA.out.later b05 hg, H1.out.1.later b15 (fun g e => (H1.out.1.lt g e).1), fun g e => (H1.out.1.lt g e).1, H2.out.1.later b25 (fun g e => (H2.out.1.lt g e).1), fun g e => (H2.out.1.lt g e).1, H3.out.1.later b35, (H3.out.1.later b35).key, H5.out.1, H1.out.2.size, H2.out.2.size, Nat.le_trans H3.out.2.size H4.out.2.size⟩, b15.size⟩)
  have HW4 : Bx (Bytes w4 (.slice an nn cn) no ∧ Bytes w4 (.slice ad nd cd) bo ∧ IsKey w4 (.pointer (some ⟨pk, 0, none⟩)) ky ∧ Tab w4 ∧ Below w.heap.size w w4 ∧ Below w4.heap.size w4 w5) := Bx.mk (by
    have b24 : Below w2.heap.size w2 w4 := H3.out.2.trans (H4.out.2.mono H3.out.2.size)
    have b14 : Below w1.heap.size w1 w4 := H2.out.2.trans (b24.mono H2.out.2.size)
    have b04 : Below w.heap.size w w4 := H1.out.2.trans (b14.mono H1.out.2.size)
    exact ⟨H1.out.1.bytes.later b14, H2.out.1.bytes.later b24, H3.out.1.key.later H4.out.2, HA.out.later b04 hg, b04, H5.out.2⟩)
  clear HE5 H5 H4 H3 H13 H23 H1 H2
  obtain ⟨r, hr⟩ : ∃ r, (IntKind.u64.wrap zwh).tmod 3 = r := ⟨_, rfl⟩
  obtain ⟨ii, hii, hil⟩ : ∃ i : Nat, (IntKind.u64.wrap zat).tmod (ns : Int) = (i : Int) ∧ i < ns := by
    have h0 : (0 : Int) ≤ IntKind.u64.wrap zat := wrap_nonneg zat
    rw [Int.tmod_eq_emod_of_nonneg h0]
    have h1 := Int.emod_nonneg (IntKind.u64.wrap zat) (show (ns : Int) ≠ 0 by omega)
    have h2 := Int.emod_lt_of_pos (IntKind.u64.wrap zat) (show (0 : Int) < (ns : Int) by omega)
    exact ⟨((IntKind.u64.wrap zat) % (ns : Int)).toNat, by omega, by omega⟩
  have hi1 : (ii : Int) < (ns : Int) := by omega
  by_cases hr0 : r = 0
  · have t0 : (r == 0) = true := by simp [hr0]
    rcases HT.out.1.xx.form with ⟨h0, -⟩ | ⟨g, cap', hv⟩
    · injection h0 with _ e2 _
      omega
    injection hv with e1 e2 e3
    subst e1
    clear e2 e3
    obtain ⟨c, o, he1, hcell⟩ := HT.out.1.xx.bytes.cell ii hil
    injection he1 with he1
    injection he1 with h1 h2
    subst h1
    subst h2
    rw [Nat.zero_add] at hcell
    obtain ⟨cur, hrow, hgb⟩ := HT.out.1.xx.row
    have fz : w5.frozen? ⟨g, ii, none⟩ = false := frozen_of_row _ _ _ _ _ hrow
    have HB : Bx (TE w (.slice an nn cn) (.slice ad nd cd) (.slice (some ⟨g, 0, none⟩) ns cx) (.pointer (some ⟨pk, 0, none⟩)) ky no bo (s.set ii (s.getD ii 0 ^^^ (y ||| 1))) (w5.setCell ⟨g, ii, none⟩ (.int .u8 (ub (s.getD ii 0 ^^^ (y ||| 1)))))) := Bx.mk (by
      have hb : Below w4.heap.size w4 (w5.setCell ⟨g, ii, none⟩ (.int .u8 (ub (s.getD ii 0 ^^^ (y ||| 1))))) := HW4.out.2.2.2.2.2.setCell hgb _
      exact ⟨HW4.out.2.2.2.2.1.trans (hb.mono HW4.out.2.2.2.2.1.size), HW4.out.2.2.2.1.later hb (Nat.lt_of_lt_of_le hg HW4.out.2.2.2.2.1.size), HW4.out.1.later hb, HW4.out.2.1.later hb, (HT.out.1.xx.set ii _).bytes, HW4.out.2.2.1.later hb⟩)
    have hxor := ub_xor (s.getD ii 0) (y ||| 1)
    have hz1 := ub_nonneg (s.getD ii 0 ^^^ (y ||| 1))
    have hz2 := ub_le (s.getD ii 0 ^^^ (y ||| 1))
    have HXl : Bx ((s.set ii (s.getD ii 0 ^^^ (y ||| 1))).length = ns) := Bx.mk (by rw [List.length_set]; exact HSl.out)
    generalize s.set ii (s.getD ii 0 ^^^ (y ||| 1)) = s' at *
    generalize s.getD ii 0 = x0 at *
    clear HT HW4 hrow hgb
    go_upto_region 14 with (fail)
    generalize w5.setCell ⟨g, ii, none⟩ (.int .u8 (ub (x0 ^^^ (y ||| 1)))) = w6 at *
    clear hcell fz
    have hrl := hr
    clear hrl
    go_wp2_with fail
    refine (open_all ky no bo s' _ _ _ _ w6 HB.out.kk HB.out.nn HB.out.dd HB.out.xx (by have := C0.out; omega) (by have := HNo.out; omega) (by have := HBo.out; omega) (by have := HXl.out; omega) HB.out.tab (Nat.lt_of_lt_of_le hg HB.out.below.size)).mono ?_
    rintro e w7 ⟨vb, rfl, hy7, hb7⟩
    have HOl := Bx.mk (openF_len ky no bo s')
    have HO2 := Bx.mk (openF_two ky no bo s' (by have := HNo.out; omega) (by have := HXl.out; omega))
    obtain ⟨hcd1, hcd2⟩ := openF_code ky no bo s'
    have H7 : Bx (TE w (.slice an nn cn) (.slice ad nd cd) (.slice (some ⟨g, 0, none⟩) ns cx) (.pointer (some ⟨pk, 0, none⟩)) ky no bo s' w7 ∧ Bytes w7 vb (openF ky no bo s').2) := Bx.mk ⟨HB.out.later hg hb7, hy7⟩
    have HRO : Bx (∀ (tbl : List Value) (_ : u32s (kTab ++ hTab) = tbl.toArray) (W : World), TE w (.slice an nn cn) (.slice ad nd cd) (.slice (some ⟨g, 0, none⟩) ns cx) (.pointer (some ⟨pk, 0, none⟩)) ky no bo s' W → Calls Tryd.prog 30 #[.agg tbl.toArray, .slice a0 n0 c0, (.slice an nn cn), (.slice ad nd cd), (.slice (some ⟨g, 0, none⟩) ns cx)] W fun e w' => ∃ v', e = .returned (.tuple #[v', .int .i64 (openF ky no bo s').1]) ∧ Bytes w' v' (openF ky no bo s').2 ∧ Below W.heap.size W w') := Bx.mk (fun tbl htb W h => ropen_all tbl htb ky no bo s' _ _ _ _ W (C0.out.1.later h.below) h.nn h.dd h.xx (by have := C0.out; omega) (by have := HNo.out; omega) (by have := HBo.out; omega) (by have := HXl.out; omega))
    clear hb7 HB
    generalize (openF ky no bo s').1 = cc at *
    generalize (openF ky no bo s').2 = rr at *
    obtain ⟨ab, cb, hvb, -⟩ := hy7
    obtain ⟨nb, hnb⟩ : ∃ n, rr.length = n := ⟨_, rfl⟩
    have HNb := Bx.mk hnb
    rw [hnb] at hvb
    subst hvb
    clear hnb
    obtain ⟨tbl, htb⟩ : ∃ tbl : List Value, u32s (kTab ++ hTab) = tbl.toArray := ⟨_, rfl⟩
    have HTb := Bx.mk htb
    go_wp2_with fail
    refine (make_any w7).mono ?_
    rintro e w8 ⟨rfl, hb8⟩
    have H8 : Bx (TE w (.slice an nn cn) (.slice ad nd cd) (.slice (some ⟨g, 0, none⟩) ns cx) (.pointer (some ⟨pk, 0, none⟩)) ky no bo s' w8 ∧ Bytes w8 (.slice ab nb cb) rr) := Bx.mk ⟨H7.out.1.later hg hb8, H7.out.2.later hb8⟩
    clear hb8 H7
    rw [htb]
    clear htb
    go_wp2_with fail
    refine (HRO.out tbl HTb.out w8 H8.out.1).mono ?_
    rintro e w9 ⟨vr, rfl, hy9, hb9⟩
    have H9 : Bx (Tab w9 ∧ Below w.heap.size w w9 ∧ Bytes w9 (.slice ab nb cb) rr ∧ Bytes w9 vr rr) := Bx.mk ⟨H8.out.1.tab.later hb9 (Nat.lt_of_lt_of_le hg H8.out.1.below.size), H8.out.1.below.trans (hb9.mono H8.out.1.below.size), H8.out.2.later hb9, hy9⟩
    obtain ⟨ar, cr, hvr, -⟩ := hy9
    obtain ⟨nr, hnr⟩ : ∃ n, rr.length = n := ⟨_, rfl⟩
    rw [hnr] at hvr
    subst hvr
    clear hnr hb9 H8 HRO
    rcases HO2.out with hcc | ⟨hcc, hrr⟩
    · subst hcc
      go_wp2_with fail
      refine (known3_any w9 H9.out.1 (Nat.lt_of_lt_of_le hg H9.out.2.1.size)).mono ?_
      rintro e w10 ⟨rfl, hb10⟩
      have H10 : Bx (Below w.heap.size w w10 ∧ Bytes w10 (.slice ab nb cb) rr ∧ Bytes w10 (.slice ar nr cr) rr) := Bx.mk ⟨H9.out.2.1.trans (hb10.mono H9.out.2.1.size), H9.out.2.2.1.later hb10, H9.out.2.2.2.later hb10⟩
      clear hb10 H9
      go_wp2_with fail
      refine (same_same3 rr _ _ w10 H10.out.2.1 H10.out.2.2 (by have h1 := HOl.out; have h2 := HXl.out; omega)).mono ?_
      rintro e w11 ⟨rfl, hb11⟩
      have H11 : Bx (Below w.heap.size w w11) := Bx.mk (H10.out.1.trans (hb11.mono H10.out.1.size))
      clear hb11 H10
      go_wp2
      go_ret
      exact ⟨rfl, H11.out⟩
    · subst hcc
      have hnb0 : nb = 0 := by rw [← HNb.out, hrr]; rfl
      subst hnb0
      clear hrr
      go_wp2_with fail
      refine (known3_any w9 H9.out.1 (Nat.lt_of_lt_of_le hg H9.out.2.1.size)).mono ?_
      rintro e w10 ⟨rfl, hb10⟩
      have H10 : Bx (Below w.heap.size w w10) := Bx.mk (H9.out.2.1.trans (hb10.mono H9.out.2.1.size))
      clear hb10 H9
      go_wp2
      go_ret
      exact ⟨rfl, H10.out⟩
  · have t0 : (r == 0) = false := by simp [hr0]
    by_cases hr1 : r = 1
    · have t1 : (r == 1) = true := by simp [hr1]
      have HE6 : Bx (Bytes (w5.alloc (.cells #[.int .u8 (ub (y ||| 1))] 5)) (.slice (some ⟨w5.heap.size, 0, none⟩) 1 1) [y ||| 1] ∧ TSt w w1.heap.size w2.heap.size w4.heap.size (.slice an nn cn) (.slice ad nd cd) (.slice ax ns cx) (.pointer (some ⟨pk, 0, none⟩)) ky no bo s (w5.alloc (.cells #[.int .u8 (ub (y ||| 1))] 5))) := Bx.mk ⟨built1 _ _, HT.out.1.later hg (below_a _)⟩
      go_upto_region 14 with (refine wpList_ap rfl _ _ rfl w.heap.size _ no (by rfl) HE6.out.2.nn _ [y ||| 1] (by rfl) HE6.out.1 (by have := HNo.out; simp; omega) HE6.out.2.below.size ?_; intro v6 w6 ho6 hg6 _; have HB0 : Bx (TE w v6 (.slice ad nd cd) (.slice ax ns cx) (.pointer (some ⟨pk, 0, none⟩)) ky (no ++ [y ||| 1]) bo s w6) := Bx.mk (HE6.out.2.one hg ho6 hg6); clear ho6 hg6)
      have HXl := HSl
      have HNo2 : Bx ((no ++ [y ||| 1]).length ≤ 31) := Bx.mk (by have := HNo.out; simp; omega)
      generalize no ++ [y ||| 1] = no' at *
      obtain ⟨a6, c6, hv6, -⟩ := HB0.out.nn
      obtain ⟨n6, hn6⟩ : ∃ n, no'.length = n := ⟨_, rfl⟩
      rw [hn6] at hv6
      subst hv6
      have HB : Bx (TE w (.slice a6 n6 c6) (.slice ad nd cd) (.slice ax ns cx) (.pointer (some ⟨pk, 0, none⟩)) ky no' bo s w6) := HB0
      clear hn6 HE6 HT HW4 HB0
      have hrl := hr
      clear hrl
      go_wp2_with fail
      refine (open_all ky no' bo s _ _ _ _ w6 HB.out.kk HB.out.nn HB.out.dd HB.out.xx (by have := C0.out; omega) (by have := HNo2.out; omega) (by have := HBo.out; omega) (by have := HXl.out; omega) HB.out.tab (Nat.lt_of_lt_of_le hg HB.out.below.size)).mono ?_
      rintro e w7 ⟨vb, rfl, hy7, hb7⟩
      have HOl := Bx.mk (openF_len ky no' bo s)
      have HO2 := Bx.mk (openF_two ky no' bo s (by have := HNo2.out; omega) (by have := HXl.out; omega))
      obtain ⟨hcd1, hcd2⟩ := openF_code ky no' bo s
      have H7 : Bx (TE w (.slice a6 n6 c6) (.slice ad nd cd) (.slice ax ns cx) (.pointer (some ⟨pk, 0, none⟩)) ky no' bo s w7 ∧ Bytes w7 vb (openF ky no' bo s).2) := Bx.mk ⟨HB.out.later hg hb7, hy7⟩
      have HRO : Bx (∀ (tbl : List Value) (_ : u32s (kTab ++ hTab) = tbl.toArray) (W : World), TE w (.slice a6 n6 c6) (.slice ad nd cd) (.slice ax ns cx) (.pointer (some ⟨pk, 0, none⟩)) ky no' bo s W → Calls Tryd.prog 30 #[.agg tbl.toArray, .slice a0 n0 c0, (.slice a6 n6 c6), (.slice ad nd cd), (.slice ax ns cx)] W fun e w' => ∃ v', e = .returned (.tuple #[v', .int .i64 (openF ky no' bo s).1]) ∧ Bytes w' v' (openF ky no' bo s).2 ∧ Below W.heap.size W w') := Bx.mk (fun tbl htb W h => ropen_all tbl htb ky no' bo s _ _ _ _ W (C0.out.1.later h.below) h.nn h.dd h.xx (by have := C0.out; omega) (by have := HNo2.out; omega) (by have := HBo.out; omega) (by have := HXl.out; omega))
      clear hb7 HB
      generalize (openF ky no' bo s).1 = cc at *
      generalize (openF ky no' bo s).2 = rr at *
      obtain ⟨ab, cb, hvb, -⟩ := hy7
      obtain ⟨nb, hnb⟩ : ∃ n, rr.length = n := ⟨_, rfl⟩
      have HNb := Bx.mk hnb
      rw [hnb] at hvb
      subst hvb
      clear hnb
      obtain ⟨tbl, htb⟩ : ∃ tbl : List Value, u32s (kTab ++ hTab) = tbl.toArray := ⟨_, rfl⟩
      have HTb := Bx.mk htb
      go_wp2_with fail
      refine (make_any w7).mono ?_
      rintro e w8 ⟨rfl, hb8⟩
      have H8 : Bx (TE w (.slice a6 n6 c6) (.slice ad nd cd) (.slice ax ns cx) (.pointer (some ⟨pk, 0, none⟩)) ky no' bo s w8 ∧ Bytes w8 (.slice ab nb cb) rr) := Bx.mk ⟨H7.out.1.later hg hb8, H7.out.2.later hb8⟩
      clear hb8 H7
      rw [htb]
      clear htb
      go_wp2_with fail
      refine (HRO.out tbl HTb.out w8 H8.out.1).mono ?_
      rintro e w9 ⟨vr, rfl, hy9, hb9⟩
      have H9 : Bx (Tab w9 ∧ Below w.heap.size w w9 ∧ Bytes w9 (.slice ab nb cb) rr ∧ Bytes w9 vr rr) := Bx.mk ⟨H8.out.1.tab.later hb9 (Nat.lt_of_lt_of_le hg H8.out.1.below.size), H8.out.1.below.trans (hb9.mono H8.out.1.below.size), H8.out.2.later hb9, hy9⟩
      obtain ⟨ar, cr, hvr, -⟩ := hy9
      obtain ⟨nr, hnr⟩ : ∃ n, rr.length = n := ⟨_, rfl⟩
      rw [hnr] at hvr
      subst hvr
      clear hnr hb9 H8 HRO
      rcases HO2.out with hcc | ⟨hcc, hrr⟩
      · subst hcc
        go_wp2_with fail
        refine (known3_any w9 H9.out.1 (Nat.lt_of_lt_of_le hg H9.out.2.1.size)).mono ?_
        rintro e w10 ⟨rfl, hb10⟩
        have H10 : Bx (Below w.heap.size w w10 ∧ Bytes w10 (.slice ab nb cb) rr ∧ Bytes w10 (.slice ar nr cr) rr) := Bx.mk ⟨H9.out.2.1.trans (hb10.mono H9.out.2.1.size), H9.out.2.2.1.later hb10, H9.out.2.2.2.later hb10⟩
        clear hb10 H9
        go_wp2_with fail
        refine (same_same3 rr _ _ w10 H10.out.2.1 H10.out.2.2 (by have h1 := HOl.out; have h2 := HXl.out; omega)).mono ?_
        rintro e w11 ⟨rfl, hb11⟩
        have H11 : Bx (Below w.heap.size w w11) := Bx.mk (H10.out.1.trans (hb11.mono H10.out.1.size))
        clear hb11 H10
        go_wp2
        go_ret
        exact ⟨rfl, H11.out⟩
      · subst hcc
        have hnb0 : nb = 0 := by rw [← HNb.out, hrr]; rfl
        subst hnb0
        clear hrr
        go_wp2_with fail
        refine (known3_any w9 H9.out.1 (Nat.lt_of_lt_of_le hg H9.out.2.1.size)).mono ?_
        rintro e w10 ⟨rfl, hb10⟩
        have H10 : Bx (Below w.heap.size w w10) := Bx.mk (H9.out.2.1.trans (hb10.mono H9.out.2.1.size))
        clear hb10 H9
        go_wp2
        go_ret
        exact ⟨rfl, H10.out⟩
    · have t1 : (r == 1) = false := by simp [hr1]
      have HE6 : Bx (Bytes (w5.alloc (.cells #[.int .u8 (ub (y ||| 1))] 5)) (.slice (some ⟨w5.heap.size, 0, none⟩) 1 1) [y ||| 1] ∧ TSt w w1.heap.size w2.heap.size w4.heap.size (.slice an nn cn) (.slice ad nd cd) (.slice ax ns cx) (.pointer (some ⟨pk, 0, none⟩)) ky no bo s (w5.alloc (.cells #[.int .u8 (ub (y ||| 1))] 5)) ∧ w1.heap.size ≤ (w5.alloc (.cells #[.int .u8 (ub (y ||| 1))] 5)).heap.size) := Bx.mk ⟨built1 _ _, HT.out.1.later hg (below_a _), by have := HT.out.2; simp; omega⟩
      go_upto_region 14 with (refine wpList_ap rfl _ _ rfl w1.heap.size _ bo (by rfl) HE6.out.2.1.dd _ [y ||| 1] (by rfl) HE6.out.1 (by have := HBo.out; simp; omega) HE6.out.2.2 ?_; intro v6 w6 ho6 hg6 _; have HB0 : Bx (TE w (.slice an nn cn) v6 (.slice ax ns cx) (.pointer (some ⟨pk, 0, none⟩)) ky no (bo ++ [y ||| 1]) s w6) := Bx.mk (HE6.out.2.1.two hg ho6 hg6 HE6.out.2.2); clear ho6 hg6)
      have HXl := HSl
      have HBo2 : Bx ((bo ++ [y ||| 1]).length ≤ 61) := Bx.mk (by have := HBo.out; simp; omega)
      generalize bo ++ [y ||| 1] = bo' at *
      obtain ⟨a6, c6, hv6, -⟩ := HB0.out.dd
      obtain ⟨n6, hn6⟩ : ∃ n, bo'.length = n := ⟨_, rfl⟩
      rw [hn6] at hv6
      subst hv6
      have HB : Bx (TE w (.slice an nn cn) (.slice a6 n6 c6) (.slice ax ns cx) (.pointer (some ⟨pk, 0, none⟩)) ky no bo' s w6) := HB0
      clear hn6 HE6 HT HW4 HB0
      have hrl := hr
      clear hrl
      go_wp2_with fail
      refine (open_all ky no bo' s _ _ _ _ w6 HB.out.kk HB.out.nn HB.out.dd HB.out.xx (by have := C0.out; omega) (by have := HNo.out; omega) (by have := HBo2.out; omega) (by have := HXl.out; omega) HB.out.tab (Nat.lt_of_lt_of_le hg HB.out.below.size)).mono ?_
      rintro e w7 ⟨vb, rfl, hy7, hb7⟩
      have HOl := Bx.mk (openF_len ky no bo' s)
      have HO2 := Bx.mk (openF_two ky no bo' s (by have := HNo.out; omega) (by have := HXl.out; omega))
      obtain ⟨hcd1, hcd2⟩ := openF_code ky no bo' s
      have H7 : Bx (TE w (.slice an nn cn) (.slice a6 n6 c6) (.slice ax ns cx) (.pointer (some ⟨pk, 0, none⟩)) ky no bo' s w7 ∧ Bytes w7 vb (openF ky no bo' s).2) := Bx.mk ⟨HB.out.later hg hb7, hy7⟩
      have HRO : Bx (∀ (tbl : List Value) (_ : u32s (kTab ++ hTab) = tbl.toArray) (W : World), TE w (.slice an nn cn) (.slice a6 n6 c6) (.slice ax ns cx) (.pointer (some ⟨pk, 0, none⟩)) ky no bo' s W → Calls Tryd.prog 30 #[.agg tbl.toArray, .slice a0 n0 c0, (.slice an nn cn), (.slice a6 n6 c6), (.slice ax ns cx)] W fun e w' => ∃ v', e = .returned (.tuple #[v', .int .i64 (openF ky no bo' s).1]) ∧ Bytes w' v' (openF ky no bo' s).2 ∧ Below W.heap.size W w') := Bx.mk (fun tbl htb W h => ropen_all tbl htb ky no bo' s _ _ _ _ W (C0.out.1.later h.below) h.nn h.dd h.xx (by have := C0.out; omega) (by have := HNo.out; omega) (by have := HBo2.out; omega) (by have := HXl.out; omega))
      clear hb7 HB
      generalize (openF ky no bo' s).1 = cc at *
      generalize (openF ky no bo' s).2 = rr at *
      obtain ⟨ab, cb, hvb, -⟩ := hy7
      obtain ⟨nb, hnb⟩ : ∃ n, rr.length = n := ⟨_, rfl⟩
      have HNb := Bx.mk hnb
      rw [hnb] at hvb
      subst hvb
      clear hnb
      obtain ⟨tbl, htb⟩ : ∃ tbl : List Value, u32s (kTab ++ hTab) = tbl.toArray := ⟨_, rfl⟩
      have HTb := Bx.mk htb
      go_wp2_with fail
      refine (make_any w7).mono ?_
      rintro e w8 ⟨rfl, hb8⟩
      have H8 : Bx (TE w (.slice an nn cn) (.slice a6 n6 c6) (.slice ax ns cx) (.pointer (some ⟨pk, 0, none⟩)) ky no bo' s w8 ∧ Bytes w8 (.slice ab nb cb) rr) := Bx.mk ⟨H7.out.1.later hg hb8, H7.out.2.later hb8⟩
      clear hb8 H7
      rw [htb]
      clear htb
      go_wp2_with fail
      refine (HRO.out tbl HTb.out w8 H8.out.1).mono ?_
      rintro e w9 ⟨vr, rfl, hy9, hb9⟩
      have H9 : Bx (Tab w9 ∧ Below w.heap.size w w9 ∧ Bytes w9 (.slice ab nb cb) rr ∧ Bytes w9 vr rr) := Bx.mk ⟨H8.out.1.tab.later hb9 (Nat.lt_of_lt_of_le hg H8.out.1.below.size), H8.out.1.below.trans (hb9.mono H8.out.1.below.size), H8.out.2.later hb9, hy9⟩
      obtain ⟨ar, cr, hvr, -⟩ := hy9
      obtain ⟨nr, hnr⟩ : ∃ n, rr.length = n := ⟨_, rfl⟩
      rw [hnr] at hvr
      subst hvr
      clear hnr hb9 H8 HRO
      rcases HO2.out with hcc | ⟨hcc, hrr⟩
      · subst hcc
        go_wp2_with fail
        refine (known3_any w9 H9.out.1 (Nat.lt_of_lt_of_le hg H9.out.2.1.size)).mono ?_
        rintro e w10 ⟨rfl, hb10⟩
        have H10 : Bx (Below w.heap.size w w10 ∧ Bytes w10 (.slice ab nb cb) rr ∧ Bytes w10 (.slice ar nr cr) rr) := Bx.mk ⟨H9.out.2.1.trans (hb10.mono H9.out.2.1.size), H9.out.2.2.1.later hb10, H9.out.2.2.2.later hb10⟩
        clear hb10 H9
        go_wp2_with fail
        refine (same_same3 rr _ _ w10 H10.out.2.1 H10.out.2.2 (by have h1 := HOl.out; have h2 := HXl.out; omega)).mono ?_
        rintro e w11 ⟨rfl, hb11⟩
        have H11 : Bx (Below w.heap.size w w11) := Bx.mk (H10.out.1.trans (hb11.mono H10.out.1.size))
        clear hb11 H10
        go_wp2
        go_ret
        exact ⟨rfl, H11.out⟩
      · subst hcc
        have hnb0 : nb = 0 := by rw [← HNb.out, hrr]; rfl
        subst hnb0
        clear hrr
        go_wp2_with fail
        refine (known3_any w9 H9.out.1 (Nat.lt_of_lt_of_le hg H9.out.2.1.size)).mono ?_
        rintro e w10 ⟨rfl, hb10⟩
        have H10 : Bx (Below w.heap.size w w10) := Bx.mk (H9.out.2.1.trans (hb10.mono H9.out.2.1.size))
        clear hb10 H9
        go_wp2
        go_ret
        exact ⟨rfl, H10.out⟩
end Go.Proofs.YtcaehkglfliihaaDoor
