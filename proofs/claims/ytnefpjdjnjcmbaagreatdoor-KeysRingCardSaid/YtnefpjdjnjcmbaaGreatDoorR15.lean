/-
  The end of KeysRing: its own keys.
-/
import Derived.Test.YtnefpjdjnjcmbaaGreatDoorR13
import Derived.Test.YtnefpjdjnjcmbaaGreatDoorYc
import Derived.Test.YtnefpjdjnjcmbaaGreatDoorDe
import Derived.Test.YtnefpjdjnjcmbaaGreatDoorYe
namespace Go.Proofs.YtnefpjdjnjcmbaaGreatDoor
open Go Go.RowKit
/-- What holds behind the loop. -/
structure EN (w : World) (R D : Nat) (c : Cl) (s : List UInt8) (rest : List Value) (W : World) : Prop where
  ring : W.heap[R]? = some (.cells (rgC (tkC c s).toList rest) 73 (0, 0))
  tok : W.heap[D]? = some (.cells (tkC c s) 29 (0, 0))
  tab : Tab W
  tabl : 0 < W.heap.size
  below : Below w.heap.size w W
  siz : w.heap.size ≤ W.heap.size
theorem EN.later {w : World} {R D : Nat} {c : Cl} {s : List UInt8} {rest : List Value} {W W1 : World} (h : EN w R D c s rest W) (hb : Below W.heap.size W W1) : EN w R D c s rest W1 :=
  ⟨by rw [hb.block R (Array.getElem?_eq_some_iff.1 h.ring).1]; exact h.ring, by rw [hb.block D (Array.getElem?_eq_some_iff.1 h.tok).1]; exact h.tok, h.tab.later hb h.tabl, Nat.lt_of_lt_of_le h.tabl hb.size, h.below.trans (hb.mono h.siz), Nat.le_trans h.siz hb.size⟩
theorem add_ok7 : okC ⟨1, 0, 0, 9⟩ = true := by decide
set_option maxRecDepth 100000 in
set_option maxHeartbeats 4000000 in
theorem ring_end_oo (w : World) (R D : Nat) (c : Cl) (s : List UInt8) (rest : List Value) (hs : s.length = 32) (n : Nat) (hn1 : 1 ≤ n) (hn2 : n ≤ 65535) (q : Nat) (hq1 : q < 4) (v2 v14 v15 v16 : Value) (a : Act) (W : World) (hF : RM v2 (.int .i64 (n : Int)) (.int .i64 (q : Int)) (.pointer (some ⟨D, 0, none⟩)) (.pointer (some ⟨R, 0, none⟩)) v14 v15 v16 a) (hE : EN w R D c s rest W) :
    Code.wp Tryz.prog (restAt9 Tryz.f3.body 7) (bodyPost Tryz.prog Tryz.f3 fun e w' => e = .returned (.bool true) ∧ Below w.heap.size w w') a W := by
  have E0 := Bx.mk hE
  have HSl := Bx.mk hs
  have HTI : Bx ((Tryz.prog.info? 29).map (·.size) = some (tkC c s).size) := Bx.mk (tk_info c s hs)
  have HH := Bx.mk (And.intro hn1 (And.intro hq1 hn2))
  have hbl : ∀ W : World, (Instr.build 26 #[(0, .int .i64 1), (3, .int .i64 9)]).run Tryz.prog W = .ok (.agg #[.int .i64 1, .int .i64 0, .int .i64 0, .int .i64 9]) W := fun W => by kernel_rfl
  have HAd := Bx.mk fun (W : World) => ring_add_nokey R ⟨1, 0, 0, 9⟩ W add_ok7
  unfold clV at HAd
  simp only at HAd
  clear hE hs hn1 hn2 hq1
  obtain ⟨x, rfl, hx⟩ := open351 hF.fr
  have e2 := (hx 2).symm.trans hF.s2
  have e3 := (hx 3).symm.trans hF.s3
  have e4 := (hx 4).symm.trans hF.s4
  have e11 := (hx 11).symm.trans hF.s11
  have e12 := (hx 12).symm.trans hF.s12
  have e14 := (hx 14).symm.trans hF.s14
  have e15 := (hx 15).symm.trans hF.s15
  have e16 := (hx 16).symm.trans hF.s16
  clear hF hx
  rw [e2, e3, e4, e11, e12, e14, e15, e16]
  clear e2 e3 e4 e11 e12 e14 e15 e16
  conv => arg 2; whnf
  go_wp2_with fail
  refine (to_ok c s R rest n W HSl.out E0.out.ring HH.out.1 HH.out.2.2 E0.out.tab E0.out.tabl).mono ?_
  rintro e W1 ⟨xv, rfl, hk, hb⟩
  obtain ⟨pxv, hpxv⟩ : ∃ p, xv = .pointer (some ⟨p, 0, none⟩) := by
    obtain ⟨p, s', h, -⟩ := hk
    exact ⟨p, h⟩
  subst hpxv
  have E1 := Bx.mk (E0.out.later hb)
  have HX1 := Bx.mk (hk.key)
  clear E0 
  clear hk hb
  go_wp2_with (refine wpList_load_row rfl 29 _ rfl D (by rfl) _ (tkC c s) (0, 0) _ E1.out.tok Tryz.underlying29 rfl HTI.out ?_)
  refine (tkey_any c s W1 HSl.out).mono ?_
  rintro e W2 ⟨kv, rfl, hk, hb⟩
  obtain ⟨pkv, hpkv⟩ : ∃ p, kv = .pointer (some ⟨p, 0, none⟩) := by
    obtain ⟨p, s', h, -⟩ := hk
    exact ⟨p, h⟩
  subst hpkv
  have E2 := Bx.mk (E1.out.later hb)
  have HX2 := Bx.mk (HX1.out.later hb)
  have HK2 := Bx.mk (hk.key)
  clear E1 HX1
  clear hk hb
  go_wp2_with fail
  refine (sen_ok s n _ W2 HK2.out (by rw [HSl.out]; decide) HH.out.1 HH.out.2.2 E2.out.tab E2.out.tabl).mono ?_
  rintro e W3 ⟨yv, rfl, hk, hb⟩
  obtain ⟨pyv, hpyv⟩ : ∃ p, yv = .pointer (some ⟨p, 0, none⟩) := by
    obtain ⟨p, s', h, -⟩ := hk
    exact ⟨p, h⟩
  subst hpyv
  have E3 := Bx.mk (E2.out.later hb)
  have HX3 := Bx.mk (HX2.out.later hb)
  have HK3 := Bx.mk (HK2.out.later hb)
  have HY3 := Bx.mk (hk.key)
  clear E2 HX2 HK2
  clear hk hb
  go_wp2_with fail
  refine (rseed_ok c s R rest q W3 HSl.out E3.out.ring HH.out.2.1 E3.out.tab E3.out.tabl).mono ?_
  rintro e W4 ⟨zv, rfl, hk, hb⟩
  obtain ⟨pzv, hpzv⟩ : ∃ p, zv = .pointer (some ⟨p, 0, none⟩) := by
    obtain ⟨p, s', h, -⟩ := hk
    exact ⟨p, h⟩
  subst hpzv
  have E4 := Bx.mk (E3.out.later hb)
  have HX4 := Bx.mk (HX3.out.later hb)
  have HK4 := Bx.mk (HK3.out.later hb)
  have HY4 := Bx.mk (HY3.out.later hb)
  have HZ4 := Bx.mk (hk.key)
  clear E3 HX3 HK3 HY3
  clear hk hb
  go_wp2_with (refine wpList_load_row rfl 29 _ rfl D (by rfl) _ (tkC c s) (0, 0) _ E4.out.tok Tryz.underlying29 rfl HTI.out ?_)
  refine (tkey_any c s W4 HSl.out).mono ?_
  rintro e W5 ⟨lv, rfl, hk, hb⟩
  obtain ⟨plv, hplv⟩ : ∃ p, lv = .pointer (some ⟨p, 0, none⟩) := by
    obtain ⟨p, s', h, -⟩ := hk
    exact ⟨p, h⟩
  subst hplv
  have E5 := Bx.mk (E4.out.later hb)
  have HX5 := Bx.mk (HX4.out.later hb)
  have HK5 := Bx.mk (HK4.out.later hb)
  have HY5 := Bx.mk (HY4.out.later hb)
  have HZ5 := Bx.mk (HZ4.out.later hb)
  have HL5 := Bx.mk (hk.key)
  clear E4 HX4 HK4 HY4 HZ4
  clear hk hb
  go_wp2_with fail
  refine (see_ok s q _ W5 HL5.out (by rw [HSl.out]; decide) HH.out.2.1 E5.out.tab E5.out.tabl).mono ?_
  rintro e W6 ⟨uv, rfl, hk, hb⟩
  obtain ⟨puv, hpuv⟩ : ∃ p, uv = .pointer (some ⟨p, 0, none⟩) := by
    obtain ⟨p, s', h, -⟩ := hk
    exact ⟨p, h⟩
  subst hpuv
  have E6 := Bx.mk (E5.out.later hb)
  have HX6 := Bx.mk (HX5.out.later hb)
  have HK6 := Bx.mk (HK5.out.later hb)
  have HY6 := Bx.mk (HY5.out.later hb)
  have HZ6 := Bx.mk (HZ5.out.later hb)
  have HL6 := Bx.mk (HL5.out.later hb)
  have HU6 := Bx.mk (hk.key)
  clear E5 HX5 HK5 HY5 HZ5 HL5
  clear hk hb
  go_wp2_with fail
  refine (known7_any W6 E6.out.tab E6.out.tabl).mono ?_
  rintro e W7 ⟨rfl, hb⟩
  have E7 := Bx.mk (E6.out.later hb)
  have HX7 := Bx.mk (HX6.out.later hb)
  have HK7 := Bx.mk (HK6.out.later hb)
  have HY7 := Bx.mk (HY6.out.later hb)
  have HZ7 := Bx.mk (HZ6.out.later hb)
  have HL7 := Bx.mk (HL6.out.later hb)
  have HU7 := Bx.mk (HU6.out.later hb)
  clear E6 HX6 HK6 HY6 HZ6 HL6 HU6
  clear hb
  go_wp2_with fail
  refine (kbytes_any (senK s n) _ W7 HX7.out (by unfold senK; rw [hmac_length]; decide)).mono ?_
  rintro e W8 ⟨b1, rfl, hob, hb⟩
  have E8 := Bx.mk (E7.out.later hb)
  have HX8 := Bx.mk (HX7.out.later hb)
  have HK8 := Bx.mk (HK7.out.later hb)
  have HY8 := Bx.mk (HY7.out.later hb)
  have HZ8 := Bx.mk (HZ7.out.later hb)
  have HL8 := Bx.mk (HL7.out.later hb)
  have HU8 := Bx.mk (HU7.out.later hb)
  have HA8 := Bx.mk (hob.bytes)
  clear E7 HX7 HK7 HY7 HZ7 HL7 HU7
  clear hob hb
  go_wp2_with fail
  refine (kbytes_any (senK s n) _ W8 HY8.out (by unfold senK; rw [hmac_length]; decide)).mono ?_
  rintro e W9 ⟨b2, rfl, hob, hb⟩
  have E9 := Bx.mk (E8.out.later hb)
  have HX9 := Bx.mk (HX8.out.later hb)
  have HK9 := Bx.mk (HK8.out.later hb)
  have HY9 := Bx.mk (HY8.out.later hb)
  have HZ9 := Bx.mk (HZ8.out.later hb)
  have HL9 := Bx.mk (HL8.out.later hb)
  have HU9 := Bx.mk (HU8.out.later hb)
  have HA9 := Bx.mk (HA8.out.later hb)
  have HB9 := Bx.mk (hob.bytes)
  clear E8 HX8 HK8 HY8 HZ8 HL8 HU8 HA8
  clear hob hb
  go_wp2_with fail
  refine (same_drew7 (senK s n) b1 b2 W9 HA9.out HB9.out (by unfold senK; rw [hmac_length]; decide)).mono ?_
  rintro e W10 ⟨rfl, hb⟩
  have E10 := Bx.mk (E9.out.later hb)
  have HX10 := Bx.mk (HX9.out.later hb)
  have HK10 := Bx.mk (HK9.out.later hb)
  have HY10 := Bx.mk (HY9.out.later hb)
  have HZ10 := Bx.mk (HZ9.out.later hb)
  have HL10 := Bx.mk (HL9.out.later hb)
  have HU10 := Bx.mk (HU9.out.later hb)
  have HA10 := Bx.mk (HA9.out.later hb)
  have HB10 := Bx.mk (HB9.out.later hb)
  clear E9 HX9 HK9 HY9 HZ9 HL9 HU9 HA9 HB9
  clear hb
  clear HA10 HB10
  go_wp2_with fail
  refine (kbytes_any (numK s seeL q) _ W10 HZ10.out (by unfold numK; rw [hmac_length]; decide)).mono ?_
  rintro e W11 ⟨b1, rfl, hob, hb⟩
  have E11 := Bx.mk (E10.out.later hb)
  have HX11 := Bx.mk (HX10.out.later hb)
  have HK11 := Bx.mk (HK10.out.later hb)
  have HY11 := Bx.mk (HY10.out.later hb)
  have HZ11 := Bx.mk (HZ10.out.later hb)
  have HL11 := Bx.mk (HL10.out.later hb)
  have HU11 := Bx.mk (HU10.out.later hb)
  have HA11 := Bx.mk (hob.bytes)
  clear E10 HX10 HK10 HY10 HZ10 HL10 HU10
  clear hob hb
  go_wp2_with fail
  refine (kbytes_any (numK s seeL q) _ W11 HU11.out (by unfold numK; rw [hmac_length]; decide)).mono ?_
  rintro e W12 ⟨b2, rfl, hob, hb⟩
  have E12 := Bx.mk (E11.out.later hb)
  have HX12 := Bx.mk (HX11.out.later hb)
  have HK12 := Bx.mk (HK11.out.later hb)
  have HY12 := Bx.mk (HY11.out.later hb)
  have HZ12 := Bx.mk (HZ11.out.later hb)
  have HL12 := Bx.mk (HL11.out.later hb)
  have HU12 := Bx.mk (HU11.out.later hb)
  have HA12 := Bx.mk (HA11.out.later hb)
  have HB12 := Bx.mk (hob.bytes)
  clear E11 HX11 HK11 HY11 HZ11 HL11 HU11 HA11
  clear hob hb
  go_wp2_with fail
  refine (same_drew7 (numK s seeL q) b1 b2 W12 HA12.out HB12.out (by unfold numK; rw [hmac_length]; decide)).mono ?_
  rintro e W13 ⟨rfl, hb⟩
  have E13 := Bx.mk (E12.out.later hb)
  have HX13 := Bx.mk (HX12.out.later hb)
  have HK13 := Bx.mk (HK12.out.later hb)
  have HY13 := Bx.mk (HY12.out.later hb)
  have HZ13 := Bx.mk (HZ12.out.later hb)
  have HL13 := Bx.mk (HL12.out.later hb)
  have HU13 := Bx.mk (HU12.out.later hb)
  have HA13 := Bx.mk (HA12.out.later hb)
  have HB13 := Bx.mk (HB12.out.later hb)
  clear E12 HX12 HK12 HY12 HZ12 HL12 HU12 HA12 HB12
  clear hb
  clear HA13 HB13
  go_wp2_with fail
  refine (HAd.out W13).mono ?_
  rintro e W14 ⟨rfl, hb⟩
  have E14 := Bx.mk (E13.out.later hb)
  have HX14 := Bx.mk (HX13.out.later hb)
  have HK14 := Bx.mk (HK13.out.later hb)
  have HY14 := Bx.mk (HY13.out.later hb)
  have HZ14 := Bx.mk (HZ13.out.later hb)
  have HL14 := Bx.mk (HL13.out.later hb)
  have HU14 := Bx.mk (HU13.out.later hb)
  clear E13 HX13 HK13 HY13 HZ13 HL13 HU13
  clear hb HAd
  go_wp2
  go_ret
  exact ⟨rfl, E14.out.below⟩
set_option maxRecDepth 100000 in
set_option maxHeartbeats 4000000 in
theorem ring_end_ob (w : World) (R D : Nat) (c : Cl) (s : List UInt8) (rest : List Value) (hs : s.length = 32) (n : Nat) (hn1 : 1 ≤ n) (hn2 : n ≤ 65535) (q : Int) (hq1 : q < 0 ∨ 4 ≤ q) (v2 v14 v15 v16 : Value) (a : Act) (W : World) (hF : RM v2 (.int .i64 (n : Int)) (.int .i64 q) (.pointer (some ⟨D, 0, none⟩)) (.pointer (some ⟨R, 0, none⟩)) v14 v15 v16 a) (hE : EN w R D c s rest W) :
    Code.wp Tryz.prog (restAt9 Tryz.f3.body 7) (bodyPost Tryz.prog Tryz.f3 fun e w' => e = .returned (.bool true) ∧ Below w.heap.size w w') a W := by
  have E0 := Bx.mk hE
  have HSl := Bx.mk hs
  have HTI : Bx ((Tryz.prog.info? 29).map (·.size) = some (tkC c s).size) := Bx.mk (tk_info c s hs)
  have HH := Bx.mk (And.intro hn1 (And.intro hq1 hn2))
  have hbl : ∀ W : World, (Instr.build 26 #[(0, .int .i64 1), (3, .int .i64 9)]).run Tryz.prog W = .ok (.agg #[.int .i64 1, .int .i64 0, .int .i64 0, .int .i64 9]) W := fun W => by kernel_rfl
  have HAd := Bx.mk fun (W : World) => ring_add_nokey R ⟨1, 0, 0, 9⟩ W add_ok7
  unfold clV at HAd
  simp only at HAd
  clear hE hs hn1 hn2 hq1
  obtain ⟨x, rfl, hx⟩ := open351 hF.fr
  have e2 := (hx 2).symm.trans hF.s2
  have e3 := (hx 3).symm.trans hF.s3
  have e4 := (hx 4).symm.trans hF.s4
  have e11 := (hx 11).symm.trans hF.s11
  have e12 := (hx 12).symm.trans hF.s12
  have e14 := (hx 14).symm.trans hF.s14
  have e15 := (hx 15).symm.trans hF.s15
  have e16 := (hx 16).symm.trans hF.s16
  clear hF hx
  rw [e2, e3, e4, e11, e12, e14, e15, e16]
  clear e2 e3 e4 e11 e12 e14 e15 e16
  conv => arg 2; whnf
  go_wp2_with fail
  refine (to_ok c s R rest n W HSl.out E0.out.ring HH.out.1 HH.out.2.2 E0.out.tab E0.out.tabl).mono ?_
  rintro e W1 ⟨xv, rfl, hk, hb⟩
  obtain ⟨pxv, hpxv⟩ : ∃ p, xv = .pointer (some ⟨p, 0, none⟩) := by
    obtain ⟨p, s', h, -⟩ := hk
    exact ⟨p, h⟩
  subst hpxv
  have E1 := Bx.mk (E0.out.later hb)
  have HX1 := Bx.mk (hk.key)
  clear E0 
  clear hk hb
  go_wp2_with (refine wpList_load_row rfl 29 _ rfl D (by rfl) _ (tkC c s) (0, 0) _ E1.out.tok Tryz.underlying29 rfl HTI.out ?_)
  refine (tkey_any c s W1 HSl.out).mono ?_
  rintro e W2 ⟨kv, rfl, hk, hb⟩
  obtain ⟨pkv, hpkv⟩ : ∃ p, kv = .pointer (some ⟨p, 0, none⟩) := by
    obtain ⟨p, s', h, -⟩ := hk
    exact ⟨p, h⟩
  subst hpkv
  have E2 := Bx.mk (E1.out.later hb)
  have HX2 := Bx.mk (HX1.out.later hb)
  have HK2 := Bx.mk (hk.key)
  clear E1 HX1
  clear hk hb
  go_wp2_with fail
  refine (sen_ok s n _ W2 HK2.out (by rw [HSl.out]; decide) HH.out.1 HH.out.2.2 E2.out.tab E2.out.tabl).mono ?_
  rintro e W3 ⟨yv, rfl, hk, hb⟩
  obtain ⟨pyv, hpyv⟩ : ∃ p, yv = .pointer (some ⟨p, 0, none⟩) := by
    obtain ⟨p, s', h, -⟩ := hk
    exact ⟨p, h⟩
  subst hpyv
  have E3 := Bx.mk (E2.out.later hb)
  have HX3 := Bx.mk (HX2.out.later hb)
  have HK3 := Bx.mk (HK2.out.later hb)
  have HY3 := Bx.mk (hk.key)
  clear E2 HX2 HK2
  clear hk hb
  go_wp2_with fail
  refine (rseed_bad c s R rest W3 HSl.out E3.out.ring q HH.out.2.1).mono ?_
  rintro e W4 ⟨rfl, hb⟩
  have E4 := Bx.mk (E3.out.later hb)
  have HX4 := Bx.mk (HX3.out.later hb)
  have HK4 := Bx.mk (HK3.out.later hb)
  have HY4 := Bx.mk (HY3.out.later hb)
  clear E3 HX3 HK3 HY3
  clear hb
  go_wp2_with (refine wpList_load_row rfl 29 _ rfl D (by rfl) _ (tkC c s) (0, 0) _ E4.out.tok Tryz.underlying29 rfl HTI.out ?_)
  refine (tkey_any c s W4 HSl.out).mono ?_
  rintro e W5 ⟨lv, rfl, hk, hb⟩
  obtain ⟨plv, hplv⟩ : ∃ p, lv = .pointer (some ⟨p, 0, none⟩) := by
    obtain ⟨p, s', h, -⟩ := hk
    exact ⟨p, h⟩
  subst hplv
  have E5 := Bx.mk (E4.out.later hb)
  have HX5 := Bx.mk (HX4.out.later hb)
  have HK5 := Bx.mk (HK4.out.later hb)
  have HY5 := Bx.mk (HY4.out.later hb)
  have HL5 := Bx.mk (hk.key)
  clear E4 HX4 HK4 HY4
  clear hk hb
  go_wp2_with fail
  refine (see_bad _ q W5 HH.out.2.1).mono ?_
  rintro e W6 ⟨rfl, hw⟩
  have hb : Below W5.heap.size W5 W6 := by rw [← hw]; exact Below.refl _ _
  have E6 := Bx.mk (E5.out.later hb)
  have HX6 := Bx.mk (HX5.out.later hb)
  have HK6 := Bx.mk (HK5.out.later hb)
  have HY6 := Bx.mk (HY5.out.later hb)
  have HL6 := Bx.mk (HL5.out.later hb)
  clear E5 HX5 HK5 HY5 HL5
  clear hb hw
  go_wp2_with fail
  refine (known7_any W6 E6.out.tab E6.out.tabl).mono ?_
  rintro e W7 ⟨rfl, hb⟩
  have E7 := Bx.mk (E6.out.later hb)
  have HX7 := Bx.mk (HX6.out.later hb)
  have HK7 := Bx.mk (HK6.out.later hb)
  have HY7 := Bx.mk (HY6.out.later hb)
  have HL7 := Bx.mk (HL6.out.later hb)
  clear E6 HX6 HK6 HY6 HL6
  clear hb
  go_wp2_with fail
  refine (kbytes_any (senK s n) _ W7 HX7.out (by unfold senK; rw [hmac_length]; decide)).mono ?_
  rintro e W8 ⟨b1, rfl, hob, hb⟩
  have E8 := Bx.mk (E7.out.later hb)
  have HX8 := Bx.mk (HX7.out.later hb)
  have HK8 := Bx.mk (HK7.out.later hb)
  have HY8 := Bx.mk (HY7.out.later hb)
  have HL8 := Bx.mk (HL7.out.later hb)
  have HA8 := Bx.mk (hob.bytes)
  clear E7 HX7 HK7 HY7 HL7
  clear hob hb
  go_wp2_with fail
  refine (kbytes_any (senK s n) _ W8 HY8.out (by unfold senK; rw [hmac_length]; decide)).mono ?_
  rintro e W9 ⟨b2, rfl, hob, hb⟩
  have E9 := Bx.mk (E8.out.later hb)
  have HX9 := Bx.mk (HX8.out.later hb)
  have HK9 := Bx.mk (HK8.out.later hb)
  have HY9 := Bx.mk (HY8.out.later hb)
  have HL9 := Bx.mk (HL8.out.later hb)
  have HA9 := Bx.mk (HA8.out.later hb)
  have HB9 := Bx.mk (hob.bytes)
  clear E8 HX8 HK8 HY8 HL8 HA8
  clear hob hb
  go_wp2_with fail
  refine (same_drew7 (senK s n) b1 b2 W9 HA9.out HB9.out (by unfold senK; rw [hmac_length]; decide)).mono ?_
  rintro e W10 ⟨rfl, hb⟩
  have E10 := Bx.mk (E9.out.later hb)
  have HX10 := Bx.mk (HX9.out.later hb)
  have HK10 := Bx.mk (HK9.out.later hb)
  have HY10 := Bx.mk (HY9.out.later hb)
  have HL10 := Bx.mk (HL9.out.later hb)
  have HA10 := Bx.mk (HA9.out.later hb)
  have HB10 := Bx.mk (HB9.out.later hb)
  clear E9 HX9 HK9 HY9 HL9 HA9 HB9
  clear hb
  clear HA10 HB10
  go_wp2_with fail
  refine (HAd.out W10).mono ?_
  rintro e W11 ⟨rfl, hb⟩
  have E11 := Bx.mk (E10.out.later hb)
  have HX11 := Bx.mk (HX10.out.later hb)
  have HK11 := Bx.mk (HK10.out.later hb)
  have HY11 := Bx.mk (HY10.out.later hb)
  have HL11 := Bx.mk (HL10.out.later hb)
  clear E10 HX10 HK10 HY10 HL10
  clear hb HAd
  go_wp2
  go_ret
  exact ⟨rfl, E11.out.below⟩
set_option maxRecDepth 100000 in
set_option maxHeartbeats 4000000 in
theorem ring_end_bo (w : World) (R D : Nat) (c : Cl) (s : List UInt8) (rest : List Value) (hs : s.length = 32) (n : Int) (hn1 : n < 1 ∨ 65535 < n) (q : Nat) (hq1 : q < 4) (v2 v14 v15 v16 : Value) (a : Act) (W : World) (hF : RM v2 (.int .i64 n) (.int .i64 (q : Int)) (.pointer (some ⟨D, 0, none⟩)) (.pointer (some ⟨R, 0, none⟩)) v14 v15 v16 a) (hE : EN w R D c s rest W) :
    Code.wp Tryz.prog (restAt9 Tryz.f3.body 7) (bodyPost Tryz.prog Tryz.f3 fun e w' => e = .returned (.bool true) ∧ Below w.heap.size w w') a W := by
  have E0 := Bx.mk hE
  have HSl := Bx.mk hs
  have HTI : Bx ((Tryz.prog.info? 29).map (·.size) = some (tkC c s).size) := Bx.mk (tk_info c s hs)
  have HH := Bx.mk (And.intro hn1 (And.intro hq1 True.intro))
  have hbl : ∀ W : World, (Instr.build 26 #[(0, .int .i64 1), (3, .int .i64 9)]).run Tryz.prog W = .ok (.agg #[.int .i64 1, .int .i64 0, .int .i64 0, .int .i64 9]) W := fun W => by kernel_rfl
  have HAd := Bx.mk fun (W : World) => ring_add_nokey R ⟨1, 0, 0, 9⟩ W add_ok7
  unfold clV at HAd
  simp only at HAd
  clear hE hs hn1 hq1
  obtain ⟨x, rfl, hx⟩ := open351 hF.fr
  have e2 := (hx 2).symm.trans hF.s2
  have e3 := (hx 3).symm.trans hF.s3
  have e4 := (hx 4).symm.trans hF.s4
  have e11 := (hx 11).symm.trans hF.s11
  have e12 := (hx 12).symm.trans hF.s12
  have e14 := (hx 14).symm.trans hF.s14
  have e15 := (hx 15).symm.trans hF.s15
  have e16 := (hx 16).symm.trans hF.s16
  clear hF hx
  rw [e2, e3, e4, e11, e12, e14, e15, e16]
  clear e2 e3 e4 e11 e12 e14 e15 e16
  conv => arg 2; whnf
  go_wp2_with fail
  refine (to_bad c s R rest W HSl.out E0.out.ring n HH.out.1).mono ?_
  rintro e W1 ⟨rfl, hb⟩
  have E1 := Bx.mk (E0.out.later hb)
  clear E0 
  clear hb
  go_wp2_with (refine wpList_load_row rfl 29 _ rfl D (by rfl) _ (tkC c s) (0, 0) _ E1.out.tok Tryz.underlying29 rfl HTI.out ?_)
  refine (tkey_any c s W1 HSl.out).mono ?_
  rintro e W2 ⟨kv, rfl, hk, hb⟩
  obtain ⟨pkv, hpkv⟩ : ∃ p, kv = .pointer (some ⟨p, 0, none⟩) := by
    obtain ⟨p, s', h, -⟩ := hk
    exact ⟨p, h⟩
  subst hpkv
  have E2 := Bx.mk (E1.out.later hb)
  have HK2 := Bx.mk (hk.key)
  clear E1 
  clear hk hb
  go_wp2_with fail
  refine (sen_bad _ n W2 HH.out.1).mono ?_
  rintro e W3 ⟨rfl, hw⟩
  have hb : Below W2.heap.size W2 W3 := by rw [← hw]; exact Below.refl _ _
  have E3 := Bx.mk (E2.out.later hb)
  have HK3 := Bx.mk (HK2.out.later hb)
  clear E2 HK2
  clear hb hw
  go_wp2_with fail
  refine (rseed_ok c s R rest q W3 HSl.out E3.out.ring HH.out.2.1 E3.out.tab E3.out.tabl).mono ?_
  rintro e W4 ⟨zv, rfl, hk, hb⟩
  obtain ⟨pzv, hpzv⟩ : ∃ p, zv = .pointer (some ⟨p, 0, none⟩) := by
    obtain ⟨p, s', h, -⟩ := hk
    exact ⟨p, h⟩
  subst hpzv
  have E4 := Bx.mk (E3.out.later hb)
  have HK4 := Bx.mk (HK3.out.later hb)
  have HZ4 := Bx.mk (hk.key)
  clear E3 HK3
  clear hk hb
  go_wp2_with (refine wpList_load_row rfl 29 _ rfl D (by rfl) _ (tkC c s) (0, 0) _ E4.out.tok Tryz.underlying29 rfl HTI.out ?_)
  refine (tkey_any c s W4 HSl.out).mono ?_
  rintro e W5 ⟨lv, rfl, hk, hb⟩
  obtain ⟨plv, hplv⟩ : ∃ p, lv = .pointer (some ⟨p, 0, none⟩) := by
    obtain ⟨p, s', h, -⟩ := hk
    exact ⟨p, h⟩
  subst hplv
  have E5 := Bx.mk (E4.out.later hb)
  have HK5 := Bx.mk (HK4.out.later hb)
  have HZ5 := Bx.mk (HZ4.out.later hb)
  have HL5 := Bx.mk (hk.key)
  clear E4 HK4 HZ4
  clear hk hb
  go_wp2_with fail
  refine (see_ok s q _ W5 HL5.out (by rw [HSl.out]; decide) HH.out.2.1 E5.out.tab E5.out.tabl).mono ?_
  rintro e W6 ⟨uv, rfl, hk, hb⟩
  obtain ⟨puv, hpuv⟩ : ∃ p, uv = .pointer (some ⟨p, 0, none⟩) := by
    obtain ⟨p, s', h, -⟩ := hk
    exact ⟨p, h⟩
  subst hpuv
  have E6 := Bx.mk (E5.out.later hb)
  have HK6 := Bx.mk (HK5.out.later hb)
  have HZ6 := Bx.mk (HZ5.out.later hb)
  have HL6 := Bx.mk (HL5.out.later hb)
  have HU6 := Bx.mk (hk.key)
  clear E5 HK5 HZ5 HL5
  clear hk hb
  go_wp2_with fail
  refine (known7_any W6 E6.out.tab E6.out.tabl).mono ?_
  rintro e W7 ⟨rfl, hb⟩
  have E7 := Bx.mk (E6.out.later hb)
  have HK7 := Bx.mk (HK6.out.later hb)
  have HZ7 := Bx.mk (HZ6.out.later hb)
  have HL7 := Bx.mk (HL6.out.later hb)
  have HU7 := Bx.mk (HU6.out.later hb)
  clear E6 HK6 HZ6 HL6 HU6
  clear hb
  go_wp2_with fail
  refine (kbytes_any (numK s seeL q) _ W7 HZ7.out (by unfold numK; rw [hmac_length]; decide)).mono ?_
  rintro e W8 ⟨b1, rfl, hob, hb⟩
  have E8 := Bx.mk (E7.out.later hb)
  have HK8 := Bx.mk (HK7.out.later hb)
  have HZ8 := Bx.mk (HZ7.out.later hb)
  have HL8 := Bx.mk (HL7.out.later hb)
  have HU8 := Bx.mk (HU7.out.later hb)
  have HA8 := Bx.mk (hob.bytes)
  clear E7 HK7 HZ7 HL7 HU7
  clear hob hb
  go_wp2_with fail
  refine (kbytes_any (numK s seeL q) _ W8 HU8.out (by unfold numK; rw [hmac_length]; decide)).mono ?_
  rintro e W9 ⟨b2, rfl, hob, hb⟩
  have E9 := Bx.mk (E8.out.later hb)
  have HK9 := Bx.mk (HK8.out.later hb)
  have HZ9 := Bx.mk (HZ8.out.later hb)
  have HL9 := Bx.mk (HL8.out.later hb)
  have HU9 := Bx.mk (HU8.out.later hb)
  have HA9 := Bx.mk (HA8.out.later hb)
  have HB9 := Bx.mk (hob.bytes)
  clear E8 HK8 HZ8 HL8 HU8 HA8
  clear hob hb
  go_wp2_with fail
  refine (same_drew7 (numK s seeL q) b1 b2 W9 HA9.out HB9.out (by unfold numK; rw [hmac_length]; decide)).mono ?_
  rintro e W10 ⟨rfl, hb⟩
  have E10 := Bx.mk (E9.out.later hb)
  have HK10 := Bx.mk (HK9.out.later hb)
  have HZ10 := Bx.mk (HZ9.out.later hb)
  have HL10 := Bx.mk (HL9.out.later hb)
  have HU10 := Bx.mk (HU9.out.later hb)
  have HA10 := Bx.mk (HA9.out.later hb)
  have HB10 := Bx.mk (HB9.out.later hb)
  clear E9 HK9 HZ9 HL9 HU9 HA9 HB9
  clear hb
  clear HA10 HB10
  go_wp2_with fail
  refine (HAd.out W10).mono ?_
  rintro e W11 ⟨rfl, hb⟩
  have E11 := Bx.mk (E10.out.later hb)
  have HK11 := Bx.mk (HK10.out.later hb)
  have HZ11 := Bx.mk (HZ10.out.later hb)
  have HL11 := Bx.mk (HL10.out.later hb)
  have HU11 := Bx.mk (HU10.out.later hb)
  clear E10 HK10 HZ10 HL10 HU10
  clear hb HAd
  go_wp2
  go_ret
  exact ⟨rfl, E11.out.below⟩
set_option maxRecDepth 100000 in
set_option maxHeartbeats 4000000 in
theorem ring_end_bb (w : World) (R D : Nat) (c : Cl) (s : List UInt8) (rest : List Value) (hs : s.length = 32) (n : Int) (hn1 : n < 1 ∨ 65535 < n) (q : Int) (hq1 : q < 0 ∨ 4 ≤ q) (v2 v14 v15 v16 : Value) (a : Act) (W : World) (hF : RM v2 (.int .i64 n) (.int .i64 q) (.pointer (some ⟨D, 0, none⟩)) (.pointer (some ⟨R, 0, none⟩)) v14 v15 v16 a) (hE : EN w R D c s rest W) :
    Code.wp Tryz.prog (restAt9 Tryz.f3.body 7) (bodyPost Tryz.prog Tryz.f3 fun e w' => e = .returned (.bool true) ∧ Below w.heap.size w w') a W := by
  have E0 := Bx.mk hE
  have HSl := Bx.mk hs
  have HTI : Bx ((Tryz.prog.info? 29).map (·.size) = some (tkC c s).size) := Bx.mk (tk_info c s hs)
  have HH := Bx.mk (And.intro hn1 (And.intro hq1 True.intro))
  have hbl : ∀ W : World, (Instr.build 26 #[(0, .int .i64 1), (3, .int .i64 9)]).run Tryz.prog W = .ok (.agg #[.int .i64 1, .int .i64 0, .int .i64 0, .int .i64 9]) W := fun W => by kernel_rfl
  have HAd := Bx.mk fun (W : World) => ring_add_nokey R ⟨1, 0, 0, 9⟩ W add_ok7
  unfold clV at HAd
  simp only at HAd
  clear hE hs hn1 hq1
  obtain ⟨x, rfl, hx⟩ := open351 hF.fr
  have e2 := (hx 2).symm.trans hF.s2
  have e3 := (hx 3).symm.trans hF.s3
  have e4 := (hx 4).symm.trans hF.s4
  have e11 := (hx 11).symm.trans hF.s11
  have e12 := (hx 12).symm.trans hF.s12
  have e14 := (hx 14).symm.trans hF.s14
  have e15 := (hx 15).symm.trans hF.s15
  have e16 := (hx 16).symm.trans hF.s16
  clear hF hx
  rw [e2, e3, e4, e11, e12, e14, e15, e16]
  clear e2 e3 e4 e11 e12 e14 e15 e16
  conv => arg 2; whnf
  go_wp2_with fail
  refine (to_bad c s R rest W HSl.out E0.out.ring n HH.out.1).mono ?_
  rintro e W1 ⟨rfl, hb⟩
  have E1 := Bx.mk (E0.out.later hb)
  clear E0 
  clear hb
  go_wp2_with (refine wpList_load_row rfl 29 _ rfl D (by rfl) _ (tkC c s) (0, 0) _ E1.out.tok Tryz.underlying29 rfl HTI.out ?_)
  refine (tkey_any c s W1 HSl.out).mono ?_
  rintro e W2 ⟨kv, rfl, hk, hb⟩
  obtain ⟨pkv, hpkv⟩ : ∃ p, kv = .pointer (some ⟨p, 0, none⟩) := by
    obtain ⟨p, s', h, -⟩ := hk
    exact ⟨p, h⟩
  subst hpkv
  have E2 := Bx.mk (E1.out.later hb)
  have HK2 := Bx.mk (hk.key)
  clear E1 
  clear hk hb
  go_wp2_with fail
  refine (sen_bad _ n W2 HH.out.1).mono ?_
  rintro e W3 ⟨rfl, hw⟩
  have hb : Below W2.heap.size W2 W3 := by rw [← hw]; exact Below.refl _ _
  have E3 := Bx.mk (E2.out.later hb)
  have HK3 := Bx.mk (HK2.out.later hb)
  clear E2 HK2
  clear hb hw
  go_wp2_with fail
  refine (rseed_bad c s R rest W3 HSl.out E3.out.ring q HH.out.2.1).mono ?_
  rintro e W4 ⟨rfl, hb⟩
  have E4 := Bx.mk (E3.out.later hb)
  have HK4 := Bx.mk (HK3.out.later hb)
  clear E3 HK3
  clear hb
  go_wp2_with (refine wpList_load_row rfl 29 _ rfl D (by rfl) _ (tkC c s) (0, 0) _ E4.out.tok Tryz.underlying29 rfl HTI.out ?_)
  refine (tkey_any c s W4 HSl.out).mono ?_
  rintro e W5 ⟨lv, rfl, hk, hb⟩
  obtain ⟨plv, hplv⟩ : ∃ p, lv = .pointer (some ⟨p, 0, none⟩) := by
    obtain ⟨p, s', h, -⟩ := hk
    exact ⟨p, h⟩
  subst hplv
  have E5 := Bx.mk (E4.out.later hb)
  have HK5 := Bx.mk (HK4.out.later hb)
  have HL5 := Bx.mk (hk.key)
  clear E4 HK4
  clear hk hb
  go_wp2_with fail
  refine (see_bad _ q W5 HH.out.2.1).mono ?_
  rintro e W6 ⟨rfl, hw⟩
  have hb : Below W5.heap.size W5 W6 := by rw [← hw]; exact Below.refl _ _
  have E6 := Bx.mk (E5.out.later hb)
  have HK6 := Bx.mk (HK5.out.later hb)
  have HL6 := Bx.mk (HL5.out.later hb)
  clear E5 HK5 HL5
  clear hb hw
  go_wp2_with fail
  refine (known7_any W6 E6.out.tab E6.out.tabl).mono ?_
  rintro e W7 ⟨rfl, hb⟩
  have E7 := Bx.mk (E6.out.later hb)
  have HK7 := Bx.mk (HK6.out.later hb)
  have HL7 := Bx.mk (HL6.out.later hb)
  clear E6 HK6 HL6
  clear hb
  go_wp2_with fail
  refine (HAd.out W7).mono ?_
  rintro e W8 ⟨rfl, hb⟩
  have E8 := Bx.mk (E7.out.later hb)
  have HK8 := Bx.mk (HK7.out.later hb)
  have HL8 := Bx.mk (HL7.out.later hb)
  clear E7 HK7 HL7
  clear hb HAd
  go_wp2
  go_ret
  exact ⟨rfl, E8.out.below⟩
end Go.Proofs.YtnefpjdjnjcmbaaGreatDoor
namespace Go.Proofs.YtnefpjdjnjcmbaaGreatDoor
open Go Go.RowKit
/-- The frame ahead of region 1. -/
structure RA (v0 v2 v3 v4 v6 : Value) (a : Act) : Prop where
  fr : Fr 351 a
  s0 : a.eval (.tmp 0) = v0
  s2 : a.eval (.tmp 2) = v2
  s3 : a.eval (.tmp 3) = v3
  s4 : a.eval (.tmp 4) = v4
  s6 : a.eval (.tmp 6) = v6
/-- The frame behind region 1. -/
structure RB (v2 v3 v4 v11 : Value) (a : Act) : Prop where
  fr : Fr 351 a
  s2 : a.eval (.tmp 2) = v2
  s3 : a.eval (.tmp 3) = v3
  s4 : a.eval (.tmp 4) = v4
  s11 : a.eval (.tmp 11) = v11
/-- The frame at region 3. -/
structure RC (v2 v3 v4 v11 v12 v13 : Value) (a : Act) : Prop where
  fr : Fr 351 a
  s2 : a.eval (.tmp 2) = v2
  s3 : a.eval (.tmp 3) = v3
  s4 : a.eval (.tmp 4) = v4
  s11 : a.eval (.tmp 11) = v11
  s12 : a.eval (.tmp 12) = v12
  s13 : a.eval (.tmp 13) = v13
set_option maxRecDepth 100000 in
set_option maxHeartbeats 4000000 in
theorem reg1R (w : World) (E : Nat) (m0 : List UInt8) (c : Cl) (vm v2 v3 v4 : Value) (hm : Bytes w vm m0) (hml : m0.length ≤ 9223372036854775807) (hTab : Tab w) (hg : 0 < w.heap.size) (hE : w.heap.size = E) (a : Act) (W : World) (h : RA vm v2 v3 v4 (.pointer (some ⟨E, 0, none⟩)) a) (hW : KS w E [(E, .cells (clC c) 24)] W) :
    Code.wp Tryz.prog (regionAt Tryz.f3.body 1) (fun x a' w' => x = .normal ∧ ∃ D, RB v2 v3 v4 (.pointer (some ⟨D, 0, none⟩)) a' ∧ E < D ∧ KS w E [(D, .cells (tkC (cOr c) (secK (m0.take 70) (cOr c))) 29)] w') a W := by
  obtain ⟨zt, hzs, hz⟩ : ∃ zt : Array Value, zt.size = 36 ∧ ∀ W : World, (zeroValue 29).run Tryz.prog W = .ok (.agg zt) W := ⟨#[.int .i64 0, .int .i64 0, .int .i64 0, .int .i64 0, .int .u8 0, .int .u8 0, .int .u8 0, .int .u8 0, .int .u8 0, .int .u8 0, .int .u8 0, .int .u8 0, .int .u8 0, .int .u8 0, .int .u8 0, .int .u8 0, .int .u8 0, .int .u8 0, .int .u8 0, .int .u8 0, .int .u8 0, .int .u8 0, .int .u8 0, .int .u8 0, .int .u8 0, .int .u8 0, .int .u8 0, .int .u8 0, .int .u8 0, .int .u8 0, .int .u8 0, .int .u8 0, .int .u8 0, .int .u8 0, .int .u8 0, .int .u8 0], rfl, fun W => by kernel_rfl⟩
  have HCm := Bx.mk fun (W : World) (hW : Bytes W vm m0) => cut7_any m0 70 vm W hW hml (by omega)
  have HTk := Bx.mk fun (W : World) (v : Value) (hb : Below w.heap.size w W) (hv : Bytes W v (m0.take 70)) => tok7_any (m0.take 70) c v W hv (by rw [List.length_take]; omega) (hTab.later hb hg) (Nat.lt_of_lt_of_le hg hb.size)
  have HZs := Bx.mk hzs
  have HB := Bx.mk hE
  have HV := Bx.mk hm
  have HTI : Bx ((Tryz.prog.info? 29).map (·.size) = some (tkC (cOr c) (secK (m0.take 70) (cOr c))).size ∧ (tkC (cOr c) (secK (m0.take 70) (cOr c))).size = 36 ∧ (tkC (cOr c) (secK (m0.take 70) (cOr c))).all (·.oneCell') = true) := Bx.mk ⟨tk_info _ _ (secK_length _ _), tkC_size _ _ (secK_length _ _), tkC_one _ _⟩
  unfold tkV at HTk
  generalize (tkC (cOr c) (secK (m0.take 70) (cOr c))) = tkc at *
  obtain ⟨i0, r0, x0, q0⟩ := c
  have hW : KS w E [(E, .cells #[.int .i64 i0, .int .i64 r0, .int .i64 x0, .int .i64 q0] 24)] W := hW
  have R0 : Bx (KS w E [(E, .cells #[.int .i64 i0, .int .i64 r0, .int .i64 x0, .int .i64 q0] 24)] W.drew) := ⟨hW.drew⟩
  unfold clV at HTk
  simp only at HTk
  clear hm hml hTab hg hE hzs hW
  obtain ⟨x, rfl, hx⟩ := open351 h.fr
  have e0 := (hx 0).symm.trans h.s0
  have e2 := (hx 2).symm.trans h.s2
  have e3 := (hx 3).symm.trans h.s3
  have e4 := (hx 4).symm.trans h.s4
  have e6 := (hx 6).symm.trans h.s6
  clear h hx
  rw [e0, e2, e3, e4, e6]
  clear e0 e2 e3 e4 e6
  conv => arg 2; whnf
  refine wp_region_noPanic ?_
  refine wp_region_held_drew (S := fun W => W.rangeAt E 0 [.int .i64 i0, .int .i64 r0, .int .i64 x0, .int .i64 q0]) (by kernel_rfl) (row_rng (l := [.int .i64 i0, .int .i64 r0, .int .i64 x0, .int .i64 q0]) (R0.out.rows _ (.head _))) (fun hHeld => ?_)
  generalize W.drew = V0 at *
  refine takeL 0 (v := ?_) rfl (by kernel_rfl) (by kernel_rfl) (by kernel_rfl) (fun _ _ _ h => h) (Or.inl ⟨by rfl, ?_⟩) hHeld ?_
  rotate_left 1
  · (intro w hSw; go_simp; try with_reducible rfl)
  try simp only [Act.put, List.setIfInBounds_toArray, List.set_cons_zero, List.set_cons_succ]
  refine takeL 2 rfl (by kernel_rfl) (by kernel_rfl) (by kernel_rfl) (fun _ _ _ h => h) (yieldsIf_load_mid (by rfl) _ _ rfl _ _ rfl _ _ (fun w hSw => hSw) Tryz.underlying24 rfl (by kernel_rfl)) hHeld ?_
  try simp only [Act.put, List.setIfInBounds_toArray, List.set_cons_zero, List.set_cons_succ]
  refine wpAnyH_ready (rs := [1, 4]) (by kernel_rfl) (by simp) ?_
  refine consM 1 rfl (fun K hK => ?_) (consM 4 rfl (fun K hK => ?_) AllReadyH.nil)
  · go_simp
    refine (HCm.out V0 (HV.out.later (by rw [HB.out]; exact R0.out.below))).mono ?_
    rintro e w' ⟨v1, rfl, hm1, rfl⟩
    show K _ _
    have HV1 := Bx.mk hm1
    clear hm1
    refine hK.out _ _ (row_rng (l := [.int .i64 i0, .int .i64 r0, .int .i64 x0, .int .i64 q0]) (R0.out.rows _ (.head _))) (fun hHeld => ?_)
    clear hK K
    try simp only [Act.put, List.setIfInBounds_toArray, List.set_cons_zero, List.set_cons_succ]
    refine wpAnyH_ready (rs := [3, 4]) (by kernel_rfl) (by simp) ?_
    refine consM 3 rfl (fun K hK => ?_) (consM 4 rfl (fun K hK => ?_) AllReadyH.nil)
    · go_simp
      refine (HTk.out V0 v1 (by rw [HB.out]; exact R0.out.below) (HV1.out _ (HV.out.later (by rw [HB.out]; exact R0.out.below)))).mono ?_
      rintro e V1 ⟨rfl, hb⟩
      show K _ _
      have R1 := Bx.mk (R0.out.later hb)
      clear hb R0
      refine hK.out _ _ (row_rng (l := [.int .i64 i0, .int .i64 r0, .int .i64 x0, .int .i64 q0]) (R1.out.rows _ (.head _))) (fun hHeld => ?_)
      clear hK K
      try simp only [Act.put, List.setIfInBounds_toArray, List.set_cons_zero, List.set_cons_succ]
      refine stepL 4 (by kernel_rfl) rfl (fun K hK => ?_)
      go_simp
      show K _ _
      have HEF : Bx (E < V1.heap.size ∧ E ≤ V1.heap.size) := ⟨⟨R1.out.lt (.head _), R1.out.le⟩⟩
      have R2 := Bx.mk (R1.out.new (.cells zt 29))
      clear R1
      generalize V1.alloc (.cells zt 29) = V2 at *
      generalize V1.heap.size = D at *
      refine hK.out _ _ (row_rng (l := [.int .i64 i0, .int .i64 r0, .int .i64 x0, .int .i64 q0]) (R2.out.rows _ (.tail _ (.head _)))) (fun hHeld => ?_)
      clear hK K
      try simp only [Act.put, List.setIfInBounds_toArray, List.set_cons_zero, List.set_cons_succ]
      refine stepL 5 (by kernel_rfl) rfl (fun K hK => ?_)
      refine step_st rfl 29 _ _ rfl D tkc (by rfl) (by rfl) (there_row (R2.out.rows _ (.head _)) 0 _ (by rw [HTI.out.2.1, HZs.out]; omega)) HTI.out.1 HTI.out.2.2 ?_
      have hr2 := heap_setCells_all (ds := tkc) (R2.out.rows _ (.head _)) (by rw [HTI.out.2.1, HZs.out])
      have R3 := Bx.mk (R2.out.set (kb_setCells tkc.toList 0 V2) hr2 HEF.out.2 (by intro y hy; have h3 := HEF.out; simp at hy; subst hy; simp only; omega))
      clear hr2 R2
      refine hK.out _ _ (row_rng (l := [.int .i64 i0, .int .i64 r0, .int .i64 x0, .int .i64 q0]) (R3.out.rows _ (.tail _ (.head _)))) (fun hHeld => ?_)
      clear hK K
      try simp only [Act.put, List.setIfInBounds_toArray, List.set_cons_zero, List.set_cons_succ]
      generalize V2.setCells D 0 tkc.toList = V3 at *
      refine wpAnyH_done (by kernel_rfl) ?_ _
      refine NoPanic.normal ?_
      exact ⟨rfl, D, ⟨⟨rfl, rfl⟩, rfl, rfl, rfl, rfl⟩, HEF.out.1, ⟨fun z hz => R3.out.rows z (by simp at hz ⊢; exact .inl hz), R3.out.below, R3.out.le⟩⟩
    · go_simp
      show K _ _
      have HEF : Bx (E < V0.heap.size ∧ E ≤ V0.heap.size) := ⟨⟨R0.out.lt (.head _), R0.out.le⟩⟩
      have R1 := Bx.mk (R0.out.new (.cells zt 29))
      clear R0
      generalize V0.alloc (.cells zt 29) = V1 at *
      generalize V0.heap.size = D at *
      refine hK.out _ _ (row_rng (l := [.int .i64 i0, .int .i64 r0, .int .i64 x0, .int .i64 q0]) (R1.out.rows _ (.tail _ (.head _)))) (fun hHeld => ?_)
      clear hK K
      try simp only [Act.put, List.setIfInBounds_toArray, List.set_cons_zero, List.set_cons_succ]
      refine stepL 3 (by kernel_rfl) rfl (fun K hK => ?_)
      go_simp
      refine (HTk.out V1 v1 (by rw [HB.out]; exact R1.out.below) (HV1.out _ (HV.out.later (by rw [HB.out]; exact R1.out.below)))).mono ?_
      rintro e V2 ⟨rfl, hb⟩
      show K _ _
      have R2 := Bx.mk (R1.out.later hb)
      clear hb R1
      refine hK.out _ _ (row_rng (l := [.int .i64 i0, .int .i64 r0, .int .i64 x0, .int .i64 q0]) (R2.out.rows _ (.tail _ (.head _)))) (fun hHeld => ?_)
      clear hK K
      try simp only [Act.put, List.setIfInBounds_toArray, List.set_cons_zero, List.set_cons_succ]
      refine stepL 5 (by kernel_rfl) rfl (fun K hK => ?_)
      refine step_st rfl 29 _ _ rfl D tkc (by rfl) (by rfl) (there_row (R2.out.rows _ (.head _)) 0 _ (by rw [HTI.out.2.1, HZs.out]; omega)) HTI.out.1 HTI.out.2.2 ?_
      have hr2 := heap_setCells_all (ds := tkc) (R2.out.rows _ (.head _)) (by rw [HTI.out.2.1, HZs.out])
      have R3 := Bx.mk (R2.out.set (kb_setCells tkc.toList 0 V2) hr2 HEF.out.2 (by intro y hy; have h3 := HEF.out; simp at hy; subst hy; simp only; omega))
      clear hr2 R2
      refine hK.out _ _ (row_rng (l := [.int .i64 i0, .int .i64 r0, .int .i64 x0, .int .i64 q0]) (R3.out.rows _ (.tail _ (.head _)))) (fun hHeld => ?_)
      clear hK K
      try simp only [Act.put, List.setIfInBounds_toArray, List.set_cons_zero, List.set_cons_succ]
      generalize V2.setCells D 0 tkc.toList = V3 at *
      refine wpAnyH_done (by kernel_rfl) ?_ _
      refine NoPanic.normal ?_
      exact ⟨rfl, D, ⟨⟨rfl, rfl⟩, rfl, rfl, rfl, rfl⟩, HEF.out.1, ⟨fun z hz => R3.out.rows z (by simp at hz ⊢; exact .inl hz), R3.out.below, R3.out.le⟩⟩
  · go_simp
    show K _ _
    have HEF : Bx (E < V0.heap.size ∧ E ≤ V0.heap.size) := ⟨⟨R0.out.lt (.head _), R0.out.le⟩⟩
    have R1 := Bx.mk (R0.out.new (.cells zt 29))
    clear R0
    generalize V0.alloc (.cells zt 29) = V1 at *
    generalize V0.heap.size = D at *
    refine hK.out _ _ (row_rng (l := [.int .i64 i0, .int .i64 r0, .int .i64 x0, .int .i64 q0]) (R1.out.rows _ (.tail _ (.head _)))) (fun hHeld => ?_)
    clear hK K
    try simp only [Act.put, List.setIfInBounds_toArray, List.set_cons_zero, List.set_cons_succ]
    refine stepL 1 (by kernel_rfl) rfl (fun K hK => ?_)
    go_simp
    refine (HCm.out V1 (HV.out.later (by rw [HB.out]; exact R1.out.below))).mono ?_
    rintro e w' ⟨v1, rfl, hm1, rfl⟩
    show K _ _
    have HV1 := Bx.mk hm1
    clear hm1
    refine hK.out _ _ (row_rng (l := [.int .i64 i0, .int .i64 r0, .int .i64 x0, .int .i64 q0]) (R1.out.rows _ (.tail _ (.head _)))) (fun hHeld => ?_)
    clear hK K
    try simp only [Act.put, List.setIfInBounds_toArray, List.set_cons_zero, List.set_cons_succ]
    refine stepL 3 (by kernel_rfl) rfl (fun K hK => ?_)
    go_simp
    refine (HTk.out V1 v1 (by rw [HB.out]; exact R1.out.below) (HV1.out _ (HV.out.later (by rw [HB.out]; exact R1.out.below)))).mono ?_
    rintro e V2 ⟨rfl, hb⟩
    show K _ _
    have R2 := Bx.mk (R1.out.later hb)
    clear hb R1
    refine hK.out _ _ (row_rng (l := [.int .i64 i0, .int .i64 r0, .int .i64 x0, .int .i64 q0]) (R2.out.rows _ (.tail _ (.head _)))) (fun hHeld => ?_)
    clear hK K
    try simp only [Act.put, List.setIfInBounds_toArray, List.set_cons_zero, List.set_cons_succ]
    refine stepL 5 (by kernel_rfl) rfl (fun K hK => ?_)
    refine step_st rfl 29 _ _ rfl D tkc (by rfl) (by rfl) (there_row (R2.out.rows _ (.head _)) 0 _ (by rw [HTI.out.2.1, HZs.out]; omega)) HTI.out.1 HTI.out.2.2 ?_
    have hr2 := heap_setCells_all (ds := tkc) (R2.out.rows _ (.head _)) (by rw [HTI.out.2.1, HZs.out])
    have R3 := Bx.mk (R2.out.set (kb_setCells tkc.toList 0 V2) hr2 HEF.out.2 (by intro y hy; have h3 := HEF.out; simp at hy; subst hy; simp only; omega))
    clear hr2 R2
    refine hK.out _ _ (row_rng (l := [.int .i64 i0, .int .i64 r0, .int .i64 x0, .int .i64 q0]) (R3.out.rows _ (.tail _ (.head _)))) (fun hHeld => ?_)
    clear hK K
    try simp only [Act.put, List.setIfInBounds_toArray, List.set_cons_zero, List.set_cons_succ]
    generalize V2.setCells D 0 tkc.toList = V3 at *
    refine wpAnyH_done (by kernel_rfl) ?_ _
    refine NoPanic.normal ?_
    exact ⟨rfl, D, ⟨⟨rfl, rfl⟩, rfl, rfl, rfl, rfl⟩, HEF.out.1, ⟨fun z hz => R3.out.rows z (by simp at hz ⊢; exact .inl hz), R3.out.below, R3.out.le⟩⟩
theorem rng_later {W W1 : World} {g : Nat} {l : List Value} (hl : l ≠ []) (h : W.rangeAt g 0 l) (hb : Below W.heap.size W W1) : W1.rangeAt g 0 l := by
  cases l with
  | nil => exact absurd rfl hl
  | cons x r => exact range_acts h hb
set_option maxRecDepth 100000 in
set_option maxHeartbeats 4000000 in
theorem reg3R (c : Cl) (s : List UInt8) (rest : List Value) (R D : Nat) (v2 v3 v4 : Value) (hs : s.length = 32) (a : Act) (W : World) (h : RC v2 v3 v4 (.pointer (some ⟨D, 0, none⟩)) (.pointer (some ⟨R, 0, none⟩)) (.int .i64 0) a) (hD : W.heap[D]? = some (.cells (tkC c s) 29 (0, 0))) (hR : W.heap[R]? = some (.cells (rgC (tkC c s).toList rest) 73 (0, 0))) :
    Code.wp Tryz.prog (regionAt Tryz.f3.body 3) (fun x a' w' => x = .normal ∧ RC v2 v3 v4 (.pointer (some ⟨D, 0, none⟩)) (.pointer (some ⟨R, 0, none⟩)) (.int .i64 0) a' ∧ a'.eval (.tmp 56) = .bool false ∧ Below W.heap.size W w') a W := by
  have HOw := Bx.mk fun (W : World) (h : W.heap[R]? = some (.cells (rgC (tkC c s).toList rest) 73 (0, 0))) => own_any c s R rest W hs h
  unfold tkV at HOw
  have hne := fun W => self_tk_neq c s hs W
  have hi29 := tk_info c s hs
  obtain ⟨kl, hkl⟩ : ∃ kl, (tkC c s).toList = kl := ⟨_, rfl⟩
  have e : tkC c s = kl.toArray := by rw [← hkl]
  have HLr : Bx (kl ≠ []) := ⟨by
    intro e0
    have h1 := congrArg List.length hkl
    rw [e0, Array.length_toList, tkC_size c s hs] at h1
    cases h1⟩
  rw [hkl] at HOw hR
  rw [e] at HOw hne hi29 hD
  have hi29 : (Tryz.prog.info? 29).map (·.size) = some kl.length := hi29
  have HD0 : Bx (Below W.heap.size W W.drew) := ⟨(Below.refl _ _).drew⟩
  have HS0 : Bx (W.drew.rangeAt D 0 kl ∧ Bx (W.drew.heap[R]? = some (.cells (rgC kl rest) 73 (0, 0)))) := ⟨row_rng hD, ⟨hR⟩⟩
  clear hkl e hD hR hs
  obtain ⟨x, rfl, hx⟩ := open351 h.fr
  have e2 := (hx 2).symm.trans h.s2
  have e3 := (hx 3).symm.trans h.s3
  have e4 := (hx 4).symm.trans h.s4
  have e11 := (hx 11).symm.trans h.s11
  have e12 := (hx 12).symm.trans h.s12
  have e13 := (hx 13).symm.trans h.s13
  clear h hx
  rw [e2, e3, e4, e11, e12, e13]
  clear e2 e3 e4 e11 e12 e13
  conv => arg 2; whnf
  refine wp_region_noPanic ?_
  refine wp_region_held_drew (S := fun W => W.rangeAt D 0 kl ∧ Bx (W.heap[R]? = some (.cells (rgC kl rest) 73 (0, 0)))) (by kernel_rfl) (HS0.out) (fun hHeld => ?_)
  generalize W.drew = V0 at *
  clear HS0
  refine takeL 0 (v := ?_) rfl (by kernel_rfl) (by kernel_rfl) (by kernel_rfl) (fun _ _ _ h => h) (Or.inl ⟨by rfl, ?_⟩) hHeld ?_
  rotate_left 1
  · (intro w hSw; go_simp; try with_reducible rfl)
  try simp only [Act.put, List.setIfInBounds_toArray, List.set_cons_zero, List.set_cons_succ]
  refine takeL 1 (v := ?_) rfl (by kernel_rfl) (by kernel_rfl) (by kernel_rfl) (fun _ _ _ h => h) (Or.inl ⟨by rfl, ?_⟩) hHeld ?_
  rotate_left 1
  · (intro w hSw; go_simp; try with_reducible rfl)
  try simp only [Act.put, List.setIfInBounds_toArray, List.set_cons_zero, List.set_cons_succ]
  refine takeL 2 (v := ?_) rfl (by kernel_rfl) (by kernel_rfl) (by kernel_rfl) (fun _ _ _ h => h) (Or.inl ⟨by rfl, ?_⟩) hHeld ?_
  rotate_left 1
  · (intro w hSw; go_simp; try with_reducible rfl)
  try simp only [Act.put, List.setIfInBounds_toArray, List.set_cons_zero, List.set_cons_succ]
  refine takeL 3 (v := ?_) rfl (by kernel_rfl) (by kernel_rfl) (by kernel_rfl) (fun _ _ _ h => h) (Or.inl ⟨by rfl, ?_⟩) hHeld ?_
  rotate_left 1
  · (intro w hSw; go_simp; try with_reducible rfl)
  try simp only [Act.put, List.setIfInBounds_toArray, List.set_cons_zero, List.set_cons_succ]
  refine takeL 5 rfl (by kernel_rfl) (by kernel_rfl) (by kernel_rfl) (fun _ _ _ h => h) (yieldsIf_load_mid (by rfl) _ _ rfl _ _ rfl _ _ (fun w hSw => hSw.1) Tryz.underlying29 rfl hi29) hHeld ?_
  try simp only [Act.put, List.setIfInBounds_toArray, List.set_cons_zero, List.set_cons_succ]
  refine stepL 4 (by kernel_rfl) rfl (fun K hK => ?_)
  go_simp
  refine (HOw.out _ hHeld.2.out).mono ?_
  rintro e V1 ⟨rfl, hb⟩
  show K _ _
  have HB1 : Bx (Below V0.heap.size V0 V1) := ⟨hb⟩
  refine hK.out _ _ ⟨rng_later HLr.out hHeld.1 hb, ⟨by rw [hb.block R (Array.getElem?_eq_some_iff.1 hHeld.2.out).1]; exact hHeld.2.out⟩⟩ (fun hHeld => ?_)
  clear hK K hb
  try simp only [Act.put, List.setIfInBounds_toArray, List.set_cons_zero, List.set_cons_succ]
  refine takeL 6 (v := ?_) rfl (by kernel_rfl) (by kernel_rfl) (by kernel_rfl) (fun _ _ _ h => h) (Or.inl ⟨by rfl, ?_⟩) hHeld ?_
  rotate_left 1
  · (intro w hSw; have h6 := hne w; go_simp; try with_reducible rfl)
  try simp only [Act.put, List.setIfInBounds_toArray, List.set_cons_zero, List.set_cons_succ]
  refine takeL 7 (v := ?_) rfl (by kernel_rfl) (by kernel_rfl) (by kernel_rfl) (fun _ _ _ h => h) (Or.inl ⟨by rfl, ?_⟩) hHeld ?_
  rotate_left 1
  · (intro w hSw; go_simp; try with_reducible rfl)
  try simp only [Act.put, List.setIfInBounds_toArray, List.set_cons_zero, List.set_cons_succ]
  refine wpAnyH_done (by kernel_rfl) ?_ _
  refine NoPanic.normal ?_
  exact ⟨rfl, ⟨⟨rfl, rfl⟩, rfl, rfl, rfl, rfl, rfl, rfl⟩, rfl, HD0.out.trans (HB1.out.mono HD0.out.size)⟩
end Go.Proofs.YtnefpjdjnjcmbaaGreatDoor
