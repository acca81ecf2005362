/-
  The walk of the statement on what is opened.
-/
import Derived.Test.YtcaehkglfliihaaDoorTd
namespace Go.Proofs.YtcaehkglfliihaaDoor
open Go Go.RowKit
set_option maxRecDepth 100000 in
set_option maxHeartbeats 1000000 in
theorem opens_any (key nonce bound sl : List UInt8) (vk vn vd vs : Value) (w : World) (hk : Bytes w vk key) (hn : Bytes w vn nonce) (hd : Bytes w vd bound) (hs : Bytes w vs sl) (hkl : key.length ≤ 9223372036854775807) (hnl : nonce.length ≤ 9223372036854775807) (hdl : bound.length ≤ 9223372036854775807) (hsl : sl.length ≤ 9223372036854775807) (hTab : Tab w) (hg : 0 < w.heap.size) :
    Calls Tryd.prog 5 #[vk, vn, vd, vs] w fun e w' => e = .returned (.bool true) ∧ Below w.heap.size w w' := by
  have HV := Bx.mk (And.intro hk (And.intro hn (And.intro hd hs)))
  have HL := Bx.mk (And.intro hkl (And.intro hnl (And.intro hdl hsl)))
  have HA := Bx.mk hTab
  clear hk hn hd hs hkl hnl hdl hsl hTab
  go_enter Tryd.func5, Tryd.ntmps5
  go_wp2_with fail
  refine (cut3_any key 70 _ _ HV.out.1 HL.out.1 (by omega)).mono ?_
  rintro e w0_ ⟨v0, rfl, hc, rfl⟩
  have C0 : Bx (Bytes w0_ v0 (key.take 70) ∧ (key.take 70).length ≤ 70) := Bx.mk ⟨hc, by rw [List.length_take]; omega⟩
  obtain ⟨a0, c0, hv, -⟩ := hc
  obtain ⟨n0, hn⟩ : ∃ n, (key.take 70).length = n := ⟨_, rfl⟩
  have HN0 := Bx.mk hn
  rw [hn] at hv
  subst hv
  clear hn
  generalize key.take 70 = ky at *
  go_wp2_with fail
  refine (cut3_any nonce 40 _ _ HV.out.2.1 HL.out.2.1 (by omega)).mono ?_
  rintro e w1_ ⟨v1, rfl, hc, rfl⟩
  have C1 : Bx (Bytes w1_ v1 (nonce.take 40) ∧ (nonce.take 40).length ≤ 40) := Bx.mk ⟨hc, by rw [List.length_take]; omega⟩
  obtain ⟨a1, c1, hv, -⟩ := hc
  obtain ⟨n1, hn⟩ : ∃ n, (nonce.take 40).length = n := ⟨_, rfl⟩
  have HN1 := Bx.mk hn
  rw [hn] at hv
  subst hv
  clear hn
  generalize nonce.take 40 = no at *
  go_wp2_with fail
  refine (cut3_any bound 60 _ _ HV.out.2.2.1 HL.out.2.2.1 (by omega)).mono ?_
  rintro e w2_ ⟨v2, rfl, hc, rfl⟩
  have C2 : Bx (Bytes w2_ v2 (bound.take 60) ∧ (bound.take 60).length ≤ 60) := Bx.mk ⟨hc, by rw [List.length_take]; omega⟩
  obtain ⟨a2, c2, hv, -⟩ := hc
  obtain ⟨n2, hn⟩ : ∃ n, (bound.take 60).length = n := ⟨_, rfl⟩
  have HN2 := Bx.mk hn
  rw [hn] at hv
  subst hv
  clear hn
  generalize bound.take 60 = bo at *
  go_wp2_with fail
  refine (cut3_any sl 200 _ _ HV.out.2.2.2 HL.out.2.2.2 (by omega)).mono ?_
  rintro e w3_ ⟨v3, rfl, hc, rfl⟩
  have C3 : Bx (Bytes w3_ v3 (sl.take 200) ∧ (sl.take 200).length ≤ 200) := Bx.mk ⟨hc, by rw [List.length_take]; omega⟩
  obtain ⟨a3, c3, hv, -⟩ := hc
  obtain ⟨n3, hn⟩ : ∃ n, (sl.take 200).length = n := ⟨_, rfl⟩
  have HN3 := Bx.mk hn
  rw [hn] at hv
  subst hv
  clear hn
  generalize sl.take 200 = se at *
  go_wp2_with fail
  refine (new_any ky _ w3_ C0.out.1 (by have := C0.out; omega)).mono ?_
  rintro e w4 ⟨vk4, rfl, hk4, hb4⟩
  have H4 : Bx (IsKey w4 vk4 ky ∧ Below w3_.heap.size w3_ w4) := Bx.mk ⟨hk4.key, hb4⟩
  obtain ⟨pk, rfl⟩ := hk4.key.form
  clear hk4 hb4
  go_wp2_with fail
  refine (open_all ky no bo se _ _ _ _ w4 H4.out.1 (C1.out.1.later H4.out.2) (C2.out.1.later H4.out.2) (C3.out.1.later H4.out.2) (by have := C0.out; omega) (by have := C1.out; omega) (by have := C2.out; omega) (by have := C3.out; omega) (HA.out.later H4.out.2 hg) (Nat.lt_of_lt_of_le hg H4.out.2.size)).mono ?_
  rintro e w5 ⟨vb, rfl, hy5, hb5⟩
  have HOl := Bx.mk (openF_len ky no bo se)
  have hcd := openF_code ky no bo se
  obtain ⟨hcd1, hcd2⟩ := hcd
  have H5 : Bx (Bytes w5 vb (openF ky no bo se).2 ∧ Below w3_.heap.size w3_ w5) := Bx.mk ⟨hy5, H4.out.2.trans (hb5.mono H4.out.2.size)⟩
  have HRO : Bx (∀ (tbl : List Value) (_ : u32s (kTab ++ hTab) = tbl.toArray) (W : World), Below w3_.heap.size w3_ W → Calls Tryd.prog 30 #[.agg tbl.toArray, .slice a0 n0 c0, .slice a1 n1 c1, .slice a2 n2 c2, .slice a3 n3 c3] W fun e w' => ∃ v', e = .returned (.tuple #[v', .int .i64 (openF ky no bo se).1]) ∧ Bytes w' v' (openF ky no bo se).2 ∧ Below W.heap.size W w') := Bx.mk (fun tbl htb W hb => ropen_all tbl htb ky no bo se _ _ _ _ W (C0.out.1.later hb) (C1.out.1.later hb) (C2.out.1.later hb) (C3.out.1.later hb) (by have := C0.out; omega) (by have := C1.out; omega) (by have := C2.out; omega) (by have := C3.out; omega))
  clear hb5 H4
  generalize (openF ky no bo se).1 = cc at *
  generalize (openF ky no bo se).2 = rr at *
  obtain ⟨ab, cb, hvb, -⟩ := hy5
  obtain ⟨nb, hnb⟩ : ∃ n, rr.length = n := ⟨_, rfl⟩
  rw [hnb] at hvb
  subst hvb
  clear hnb
  obtain ⟨tbl, htb⟩ : ∃ tbl : List Value, u32s (kTab ++ hTab) = tbl.toArray := ⟨_, rfl⟩
  have HTb := Bx.mk htb
  go_wp2_with fail
  refine (make_any w5).mono ?_
  rintro e w6 ⟨rfl, hb6⟩
  have H6 : Bx (Bytes w6 (.slice ab nb cb) rr ∧ Below w3_.heap.size w3_ w6) := Bx.mk ⟨H5.out.1.later hb6, H5.out.2.trans (hb6.mono H5.out.2.size)⟩
  clear hb6 H5
  rw [htb]
  clear htb
  go_wp2_with fail
  refine (HRO.out tbl HTb.out w6 H6.out.2).mono ?_
  rintro e w7 ⟨vr, rfl, hy7, hb7⟩
  have H7 : Bx (Bytes w7 (.slice ab nb cb) rr ∧ Bytes w7 vr rr ∧ Below w3_.heap.size w3_ w7) := Bx.mk ⟨H6.out.1.later hb7, hy7, H6.out.2.trans (hb7.mono H6.out.2.size)⟩
  obtain ⟨ar, cr, hvr, -⟩ := hy7
  obtain ⟨nr, hnr⟩ : ∃ n, rr.length = n := ⟨_, rfl⟩
  rw [hnr] at hvr
  subst hvr
  clear hnr hb7 H6 HRO
  go_wp2_with fail
  refine (open_nil _ _ _ w7).mono ?_
  rintro e w8 ⟨rfl, rfl⟩
  go_wp2_with fail
  refine (known3_any w8 (HA.out.later H7.out.2.2 hg) (Nat.lt_of_lt_of_le hg H7.out.2.2.size)).mono ?_
  rintro e w9 ⟨rfl, hb9⟩
  have H9 : Bx (Bytes w9 (.slice ab nb cb) rr ∧ Bytes w9 (.slice ar nr cr) rr ∧ Below w3_.heap.size w3_ w9) := Bx.mk ⟨H7.out.1.later hb9, H7.out.2.1.later hb9, H7.out.2.2.trans (hb9.mono H7.out.2.2.size)⟩
  clear hb9 H7
  have heq : (cc == cc) = true := by simp
  go_wp2_with fail
  refine (same_same3 rr _ _ w9 H9.out.1 H9.out.2.1 (by have h1 := HOl.out; have h2 := C3.out; omega)).mono ?_
  rintro e w10 ⟨rfl, hb10⟩
  have H10 : Bx (Below w3_.heap.size w3_ w10) := Bx.mk (H9.out.2.2.trans (hb10.mono H9.out.2.2.size))
  clear hb10 H9
  go_wp2
  go_ret
  exact ⟨rfl, H10.out⟩
end Go.Proofs.YtcaehkglfliihaaDoor
