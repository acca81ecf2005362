/-
  The walk of the statement on what is sealed.
-/
import Derived.Test.YtcaehkglfliihaaDoorTd
namespace Go.Proofs.YtcaehkglfliihaaDoor
open Go Go.RowKit
/-- A load of a whole array, where its guard is decided. -/
theorem wpList_load_roww {P : Program} {ops : Array Oper} {rest : List Oper} {o : Oper} {a : Act} {w : World} {Q : Exit → Act → World → Prop} (hw : Region.wanted o (yielded ops a.tmps) = true) (ty : TypeId) (x : Operand) (ho : o.op = .load ty x)
    (g : Nat) (hx : a.eval x = .pointer (some ⟨g, 0, none⟩)) (t : TypeId) (cs : Array Value) (fr : Nat × Nat) (d : TypeDesc) (hg : w.heap[g]? = some (.cells cs t fr))
    (hu : P.underlying ty = some d) (hd : (match d with | .struct _ | .array _ _ => true | _ => false) = true) (hi : (P.info? ty).map (·.size) = some cs.size)
    (h : wpList P ops Q rest (a.put o.dst (.agg cs)) w) : wpList P ops Q (o :: rest) a w := by
  refine wpList_step fun K hK => ?_
  rw [if_pos hw]
  exact wp_load_row ty x ho g hx t cs fr d hg hu hd hi (hK _ _ h)
set_option maxRecDepth 100000 in
set_option maxHeartbeats 2000000 in
theorem bytes3_any (key nonce bound b0 : List UInt8) (vk vn vd vs : Value) (w : World) (hk : Bytes w vk key) (hn : Bytes w vn nonce) (hd : Bytes w vd bound) (hs : Bytes w vs b0) (hkl : key.length ≤ 9223372036854775807) (hnl : nonce.length ≤ 9223372036854775807) (hdl : bound.length ≤ 9223372036854775807) (hsl : b0.length ≤ 9223372036854775807) (hTab : Tab w) (hg : 0 < w.heap.size) :
    Calls Tryd.prog 4 #[vk, vn, vd, vs] w fun e w' => e = .returned (.bool true) ∧ Below w.heap.size w w' := by
  have HV := Bx.mk (And.intro hk (And.intro hn (And.intro hd hs)))
  have HL := Bx.mk (And.intro hkl (And.intro hnl (And.intro hdl hsl)))
  have HA := Bx.mk hTab
  clear hk hn hd hs hkl hnl hdl hsl hTab
  go_enter Tryd.func4, Tryd.ntmps4
  go_wp2_with fail
  refine (cut3_any key 70 _ _ HV.out.1 HL.out.1 (by omega)).mono ?_
  rintro e w0_ ⟨v0, rfl, hc, rfl⟩
  have C0 : Bx (Bytes w0_ v0 (key.take 70) ∧ (key.take 70).length ≤ 70) := Bx.mk ⟨hc, by rw [List.length_take]; omega⟩
  obtain ⟨a0, c0, hv, -⟩ := hc
  obtain ⟨n0, hn⟩ : ∃ n, (key.take 70).length = n := ⟨_, rfl⟩
  have HN0 := Bx.mk hn
  rw [hn] at hv
  subst hv
  clear hn
  generalize key.take 70 = ky at *
  go_wp2_with fail
  refine (cut3_any nonce 40 _ _ HV.out.2.1 HL.out.2.1 (by omega)).mono ?_
  rintro e w1_ ⟨v1, rfl, hc, rfl⟩
  have C1 : Bx (Bytes w1_ v1 (nonce.take 40) ∧ (nonce.take 40).length ≤ 40) := Bx.mk ⟨hc, by rw [List.length_take]; omega⟩
  obtain ⟨a1, c1, hv, -⟩ := hc
  obtain ⟨n1, hn⟩ : ∃ n, (nonce.take 40).length = n := ⟨_, rfl⟩
  have HN1 := Bx.mk hn
  rw [hn] at hv
  subst hv
  clear hn
  generalize nonce.take 40 = no at *
  go_wp2_with fail
  refine (cut3_any bound 60 _ _ HV.out.2.2.1 HL.out.2.2.1 (by omega)).mono ?_
  rintro e w2_ ⟨v2, rfl, hc, rfl⟩
  have C2 : Bx (Bytes w2_ v2 (bound.take 60) ∧ (bound.take 60).length ≤ 60) := Bx.mk ⟨hc, by rw [List.length_take]; omega⟩
  obtain ⟨a2, c2, hv, -⟩ := hc
  obtain ⟨n2, hn⟩ : ∃ n, (bound.take 60).length = n := ⟨_, rfl⟩
  have HN2 := Bx.mk hn
  rw [hn] at hv
  subst hv
  clear hn
  generalize bound.take 60 = bo at *
  go_wp2_with fail
  refine (cut3_any b0 200 _ _ HV.out.2.2.2 HL.out.2.2.2 (by omega)).mono ?_
  rintro e w3_ ⟨v3, rfl, hc, rfl⟩
  have C3 : Bx (Bytes w3_ v3 (b0.take 200) ∧ (b0.take 200).length ≤ 200) := Bx.mk ⟨hc, by rw [List.length_take]; omega⟩
  obtain ⟨a3, c3, hv, -⟩ := hc
  obtain ⟨n3, hn⟩ : ∃ n, (b0.take 200).length = n := ⟨_, rfl⟩
  have HN3 := Bx.mk hn
  rw [hn] at hv
  subst hv
  clear hn
  generalize b0.take 200 = b at *
  have hn1z : (n1 : Int) ≤ 40 := by have h1 := HN1.out; have h2 := C1.out; omega
  have hn3z : (n3 : Int) ≤ 200 := by have h1 := HN3.out; have h2 := C3.out; omega
  obtain ⟨tbl, htb⟩ : ∃ tbl : List Value, u32s (kTab ++ hTab) = tbl.toArray := ⟨_, rfl⟩
  have HTb := Bx.mk htb
  go_wp2_with fail
  refine (make_any w3_).mono ?_
  rintro e w4 ⟨rfl, hb4⟩
  have H4 := Bx.mk hb4
  rw [htb]
  have HT30 : Bx ((Tryd.prog.info? 30).map (·.size) = some tbl.toArray.size) := Bx.mk (tbl_size2 htb)
  obtain ⟨zt, hzt⟩ : ∃ zc, u32s (List.replicate 72 0) = zc := ⟨_, rfl⟩
  have hztv : ∀ W : World, (zeroValue 30).run Tryd.prog W = .ok (.agg zt) W := fun W => by rw [← hzt]; kernel_rfl
  have HZT : Bx (tbl.toArray.size = zt.size) := Bx.mk (by rw [← htb, ← hzt]; simp [u32s]; decide)
  have HTo : Bx (tbl.toArray.all (·.oneCell') = true) := Bx.mk (by rw [← htb]; exact one_u32s _)
  clear hzt htb hb4
  go_upto_region 3 with (refine wpList_store_var rfl 30 _ _ rfl w4 _ _ rfl (by rfl) tbl.toArray (by rfl) HZT.out HT30.out HTo.out ?_; intro w5 hb5 hr5 hl5)
  have H5 : Bx (Below w3_.heap.size w3_ w5 ∧ w5.heap[w4.heap.size]? = some (.cells tbl.toArray 30 (0, 0)) ∧ w4.heap.size < w5.heap.size) := Bx.mk ⟨H4.out.trans (hb5.mono H4.out.size), hr5, hl5⟩
  clear hb5 hr5 hl5 H4 HZT HTo hztv
  generalize w4.heap.size = T at *
  go_wp2_with fail
  refine (new_any ky _ w5 (C0.out.1.later H5.out.1) (by have := C0.out; omega)).mono ?_
  rintro e w6 ⟨vk6, rfl, hk6, hb6⟩
  have H6 : Bx (Below w3_.heap.size w3_ w6 ∧ w6.heap[T]? = some (.cells tbl.toArray 30 (0, 0)) ∧ T < w6.heap.size ∧ IsKey w6 vk6 ky) := Bx.mk ⟨H5.out.1.trans (hb6.mono H5.out.1.size), by rw [hb6.block _ H5.out.2.2]; exact H5.out.2.1, Nat.lt_of_lt_of_le H5.out.2.2 hb6.size, hk6.key⟩
  obtain ⟨pk, rfl⟩ := hk6.key.form
  clear hk6 hb6 H5
  have HG : Bx (∀ W, Below w3_.heap.size w3_ W → 0 < W.heap.size) := Bx.mk (fun W h => Nat.lt_of_lt_of_le hg h.size)
  by_cases h32 : 32 < no.length
  · have t1 : (32 : Int) < (n1 : Int) := by have h1 := HN1.out; omega
    have H32 := Bx.mk h32
    clear h32
    go_wp2_with fail
    refine (seal_arg ky no _ _ _ _ w6 H6.out.2.2.2 (C1.out.1.later H6.out.1) (by have := C0.out; omega) H32.out (by have := C1.out; omega) (HA.out.later H6.out.1 hg) (HG.out _ H6.out.1)).mono ?_
    rintro e w7 ⟨rfl, hb7⟩
    have H7 : Bx (Below w3_.heap.size w3_ w7 ∧ IsKey w7 (.pointer (some ⟨pk, 0, none⟩)) ky) := Bx.mk ⟨H6.out.1.trans (hb7.mono H6.out.1.size), H6.out.2.2.2.later hb7⟩
    clear hb7 H6
    go_wp2_with fail
    refine (strm_bad ky no (n3 : Int) _ _ w7 H7.out.2 (C1.out.1.later H7.out.1) (by have := C0.out; omega) (by have := C1.out; omega) (by omega) (by omega) (Or.inl H32.out) (HA.out.later H7.out.1 hg) (HG.out _ H7.out.1)).mono ?_
    rintro e w8 ⟨rfl, hb8⟩
    rw [if_pos (Or.inl H32.out)]
    have H8 : Bx (Below w3_.heap.size w3_ w8) := Bx.mk (H7.out.1.trans (hb8.mono H7.out.1.size))
    clear hb8 H7
    go_wp2_with fail
    refine (known3_any w8 (HA.out.later H8.out hg) (HG.out _ H8.out)).mono ?_
    rintro e w9 ⟨rfl, hb9⟩
    have H9 : Bx (Below w3_.heap.size w3_ w9) := Bx.mk (H8.out.trans (hb9.mono H8.out.size))
    clear hb9 H8
    go_wp2
    go_ret
    exact ⟨rfl, H9.out⟩
  · have t1 : ¬ (32 : Int) < (n1 : Int) := by have h1 := HN1.out; omega
    have H32 : Bx (no.length ≤ 32) := Bx.mk (by omega)
    clear h32
    go_wp2_with fail
    refine (seal_ok ky no bo b _ _ _ _ w6 H6.out.2.2.2 (C1.out.1.later H6.out.1) (C2.out.1.later H6.out.1) (C3.out.1.later H6.out.1) (by have := C0.out; omega) H32.out (by have := C2.out; omega) (by have := C3.out; omega) (HA.out.later H6.out.1 hg) (HG.out _ H6.out.1)).mono ?_
    rintro e w7 ⟨vs7, rfl, ho7, hb7⟩
    have HSl : Bx ((sealB ky no bo b).length = n3 + 32) := Bx.mk (by rw [sealB_length, HN3.out])
    have H7 : Bx (Below w3_.heap.size w3_ w7 ∧ w7.heap[T]? = some (.cells tbl.toArray 30 (0, 0)) ∧ T < w7.heap.size ∧ IsKey w7 (.pointer (some ⟨pk, 0, none⟩)) ky ∧ Bytes w7 vs7 (sealB ky no bo b)) := Bx.mk ⟨H6.out.1.trans (hb7.mono H6.out.1.size), by rw [hb7.block _ H6.out.2.2.1]; exact H6.out.2.1, Nat.lt_of_lt_of_le H6.out.2.2.1 hb7.size, H6.out.2.2.2.later hb7, ho7.bytes⟩
    obtain ⟨as7, cs7, hvs, -⟩ := ho7.bytes
    rw [HSl.out] at hvs
    subst hvs
    clear ho7 hb7 H6
    go_wp2_with fail
    refine (strm_ok ky no n3 _ _ w7 H7.out.2.2.2.1 (C1.out.1.later H7.out.1) (by have := C0.out; omega) H32.out (by omega) (HA.out.later H7.out.1 hg) (HG.out _ H7.out.1)).mono ?_
    rintro e w8 ⟨vx, rfl, hx8, hb8⟩
    have H8 : Bx (Below w3_.heap.size w3_ w8 ∧ w8.heap[T]? = some (.cells tbl.toArray 30 (0, 0)) ∧ T < w8.heap.size ∧ IsKey w8 (.pointer (some ⟨pk, 0, none⟩)) ky ∧ Bytes w8 (.slice as7 (n3 + 32) cs7) (sealB ky no bo b) ∧ Bytes w8 vx (strm (hideK ky) no n3)) := Bx.mk ⟨H7.out.1.trans (hb8.mono H7.out.1.size), by rw [hb8.block _ H7.out.2.2.1]; exact H7.out.2.1, Nat.lt_of_lt_of_le H7.out.2.2.1 hb8.size, H7.out.2.2.2.1.later hb8, H7.out.2.2.2.2.later hb8, hx8⟩
    obtain ⟨ax8, cx8, hvx, -⟩ := hx8
    rw [strm_length] at hvx
    subst hvx
    clear hb8 H7
    go_wp2_with fail
    refine (open_sealed ky no bo b _ _ _ _ w8 H8.out.2.2.2.1 (C1.out.1.later H8.out.1) (C2.out.1.later H8.out.1) H8.out.2.2.2.2.1 (by have := C0.out; omega) H32.out (by have := C2.out; omega) (by have := C3.out; omega) (HA.out.later H8.out.1 hg) (HG.out _ H8.out.1)).mono ?_
    rintro e w9 ⟨vc, rfl, ho9, hb9⟩
    have H9 : Bx (Below w3_.heap.size w3_ w9 ∧ w9.heap[T]? = some (.cells tbl.toArray 30 (0, 0)) ∧ T < w9.heap.size ∧ Bytes w9 (.slice as7 (n3 + 32) cs7) (sealB ky no bo b) ∧ Bytes w9 (.slice ax8 n3 cx8) (strm (hideK ky) no n3) ∧ Bytes w9 vc b) := Bx.mk ⟨H8.out.1.trans (hb9.mono H8.out.1.size), by rw [hb9.block _ H8.out.2.2.1]; exact H8.out.2.1, Nat.lt_of_lt_of_le H8.out.2.2.1 hb9.size, H8.out.2.2.2.2.1.later hb9, H8.out.2.2.2.2.2.later hb9, ho9.bytes⟩
    obtain ⟨ac9, cc9, hvc, -⟩ := ho9.bytes
    rw [HN3.out] at hvc
    subst hvc
    clear ho9 hb9 H8
    have HLt : Bx (∀ {W W' : World}, (Below w3_.heap.size w3_ W ∧ W.heap[T]? = some (.cells tbl.toArray 30 (0, 0)) ∧ T < W.heap.size ∧ Bytes W (.slice as7 (n3 + 32) cs7) (sealB ky no bo b) ∧ Bytes W (.slice ax8 n3 cx8) (strm (hideK ky) no n3) ∧ Bytes W (.slice ac9 n3 cc9) b) → Below W.heap.size W W' → (Below w3_.heap.size w3_ W' ∧ W'.heap[T]? = some (.cells tbl.toArray 30 (0, 0)) ∧ T < W'.heap.size ∧ Bytes W' (.slice as7 (n3 + 32) cs7) (sealB ky no bo b) ∧ Bytes W' (.slice ax8 n3 cx8) (strm (hideK ky) no n3) ∧ Bytes W' (.slice ac9 n3 cc9) b)) := Bx.mk (fun h hb => ⟨h.1.trans (hb.mono h.1.size), by rw [hb.block _ h.2.2.1]; exact h.2.1, Nat.lt_of_lt_of_le h.2.2.1 hb.size, h.2.2.2.1.later hb, h.2.2.2.2.1.later hb, h.2.2.2.2.2.later hb⟩)
    go_wp2_with fail
    refine (known3_any w9 (HA.out.later H9.out.1 hg) (HG.out _ H9.out.1)).mono ?_
    rintro e w10 ⟨rfl, hb10⟩
    have H10 := Bx.mk (HLt.out H9.out hb10)
    clear hb10 H9
    go_wp2_with (refine wpList_load_roww (by rfl) 30 _ rfl T (by rfl) _ _ _ _ H10.out.2.1 Tryd.underlying30 rfl HT30.out ?_)
    refine (rseal_any tbl HTb.out ky no bo b _ _ _ _ w10 (C0.out.1.later H10.out.1) (C1.out.1.later H10.out.1) (C2.out.1.later H10.out.1) (C3.out.1.later H10.out.1) (by have := C0.out; omega) (by have := C1.out; omega) (by have := C2.out; omega) (by have := C3.out; omega)).mono ?_
    rintro e w11 ⟨vr, rfl, ho11, hb11⟩
    have H11 := Bx.mk (HLt.out H10.out hb11)
    have HR11 := Bx.mk ho11.bytes
    clear hb11 H10 ho11
    go_wp2_with fail
    refine (same_same3 (sealB ky no bo b) _ _ w11 H11.out.2.2.2.1 HR11.out (by have h1 := HSl.out; omega)).mono ?_
    rintro e w12 ⟨rfl, hb12⟩
    have H12 := Bx.mk (HLt.out H11.out hb12)
    clear hb12 H11 HR11
    go_wp2_with (refine wpList_load_roww (by rfl) 30 _ rfl T (by rfl) _ _ _ _ H12.out.2.1 Tryd.underlying30 rfl HT30.out ?_)
    refine (rstrm_any tbl HTb.out ky no n3 _ _ w12 (C0.out.1.later H12.out.1) (C1.out.1.later H12.out.1) (by have := C0.out; omega) (by have := C1.out; omega) (by omega)).mono ?_
    rintro e w13 ⟨vq, rfl, hq13, hb13⟩
    have H13 := Bx.mk (HLt.out H12.out hb13)
    have HQ13 := Bx.mk hq13
    clear hb13 H12 hq13
    go_wp2_with fail
    refine (same_same3 (strm (hideK ky) no n3) _ _ w13 H13.out.2.2.2.2.1 HQ13.out (by rw [strm_length]; omega)).mono ?_
    rintro e w14 ⟨rfl, hb14⟩
    have H14 := Bx.mk (HLt.out H13.out hb14)
    clear hb14 H13 HQ13
    go_wp2_with fail
    refine (same_same3 b _ _ w14 H14.out.2.2.2.2.2 (C3.out.1.later H14.out.1) (by have := C3.out; omega)).mono ?_
    rintro e w15 ⟨rfl, hb15⟩
    have H15 := Bx.mk (HLt.out H14.out hb15)
    clear hb15 H14
    go_wp2_with fail
    refine (size_any (n3 : Int) w15 (by omega) (by omega)).mono ?_
    rintro e w16 ⟨rfl, rfl⟩
    rw [if_neg (by omega)]
    have hcast : ((n3 + 32 : Nat) : Int) = (n3 : Int) + 32 := by omega
    go_wp2_with fail
    refine (masked_any (sealB ky no bo b) _ w16 H15.out.2.2.2.1 (by have h1 := HSl.out; omega)).mono ?_
    rintro e w17 ⟨rfl, rfl⟩
    have HMk : Bx ((((sealB ky no bo b).length - 32 : Nat) : Int) = (n3 : Int)) := Bx.mk (by rw [HSl.out]; omega)
    rw [HMk.out]
    go_wp2
    go_ret
    exact ⟨rfl, H15.out.1⟩
end Go.Proofs.YtcaehkglfliihaaDoor
