/-
  The walks of what is sealed and what is opened.
-/
import Derived.Test.YtcaehkglfliihaaDoorSd
namespace Go.Proofs.YtcaehkglfliihaaDoor
open Go Go.RowKit
set_option maxRecDepth 100000 in
theorem cut_from (c o n cap m : Nat) (hm : m < n) (hc : n ≤ cap) (W : World) : (Instr.slice 22 (.slice (some ⟨c, o, none⟩) n cap) (some (.int .i64 (m : Int))) none none).run Tryd.prog W = .ok (.slice (some ⟨c, o + m, none⟩) (n - m) (cap - m)) W := by
  have he : Tryd.prog.elem 22 = 5 := by kernel_rfl
  have hs : ((sizeOf 5).run Tryd.prog W) = .ok 1 W := by kernel_rfl
  rw [run_slice_l W 22 _ n cap (by rw [he]; exact Tryd.underlying22) .i64 (m : Int) (by omega) (by omega), he, hs]
  simp only [Result.andThen, sliced, Int.toNat_natCast, Nat.mul_one]
  rw [if_neg (by omega)]
  have e : (⟨c, o, none⟩ : Addr).add m = ⟨c, o + m, none⟩ := by unfold Addr.add; split <;> simp_all
  rw [Option.map_some, e]
set_option maxRecDepth 100000 in
theorem cut_three (a : Option Addr) (n cap m : Nat) (hc : m ≤ cap) (W : World) : (Instr.slice 22 (.slice a n cap) none (some (.int .i64 (m : Int))) (some (.int .i64 (m : Int)))).run Tryd.prog W = .ok (.slice a m m) W := by
  have he : Tryd.prog.elem 22 = 5 := by kernel_rfl
  have hs : ((sizeOf 5).run Tryd.prog W) = .ok 1 W := by kernel_rfl
  rw [run_slice_hm W 22 a n cap (by rw [he]; exact Tryd.underlying22) .i64 .i64 (m : Int) (m : Int) (by omega) (by omega) (by omega), he, hs]
  simp only [Result.andThen, sliced, Int.toNat_natCast, Nat.zero_mul, Nat.sub_zero]
  congr 2
  rcases a with _ | ad
  · simp
  · simp [Addr.add]
theorem Bytes.drop {w : World} {c o n cap : Nat} {bs : List UInt8} (h : Bytes w (.slice (some ⟨c, o, none⟩) n cap) bs) (m : Nat) (hm : m < n) : Bytes w (.slice (some ⟨c, o + m, none⟩) (n - m) (cap - m)) (bs.drop m) := by
  obtain ⟨a', cap', hv, hc, hn, hr⟩ := h
  injection hv with e1 e2 e3
  subst e1 e3
  have hl : (bs.drop m).length = n - m := by rw [List.length_drop]; omega
  refine ⟨_, _, by rw [hl], by omega, (fun h => by cases h), fun _ => ⟨c, o + m, rfl, fun j hj => ?_⟩⟩
  rw [hl] at hj
  obtain ⟨c', o', he, hcell⟩ := hr (by omega)
  injection he with he
  injection he with h1 h2
  subst h1
  subst h2
  rw [Nat.add_assoc, hcell (m + j) (by omega)]
  simp [List.getElem?_drop]
/-- A frame of three parts is not too long. -/
theorem frame3_len (a b c : List UInt8) (n : Nat) (ha : a.length ≤ n) (hb : b.length ≤ n) (hc : c.length ≤ n) : (frame [a, b, c]).length ≤ (4 + n) * 3 := frame_len [a, b, c] n (fun p hp => by simp at hp; rcases hp with rfl | rfl | rfl <;> assumption)
set_option maxRecDepth 100000 in
set_option maxHeartbeats 1000000 in
theorem sealed_ok (hk bk nonce bound b : List UInt8) (v vn vd vb : Value) (w : World) (hv : IsPair w v hk bk) (hn : Bytes w vn nonce) (hd : Bytes w vd bound) (hb : Bytes w vb b) (hnl : nonce.length ≤ 32) (hdl : bound.length ≤ 100000) (hbl : b.length ≤ 65536) (hkl : hk.length ≤ 1000000) (hkl2 : bk.length ≤ 1000000) (hTab : Tab w) (hg : 0 < w.heap.size) :
    Calls Tryd.prog 44 #[v, vn, vd, vb] w fun e w' => ∃ v', e = .returned (.tuple #[v', .int .i64 0]) ∧ OwnB w' w.heap.size v' (trnd hk nonce b ++ tagB bk nonce bound (trnd hk nonce b)) ∧ Below w.heap.size w w' := by
  have HV := Bx.mk (And.intro hv (And.intro hn (And.intro hd hb)))
  have HL := Bx.mk (And.intro hnl (And.intro hdl (And.intro hbl (And.intro hkl hkl2))))
  have HA := Bx.mk hTab
  obtain ⟨p, rfl⟩ := hv.form
  obtain ⟨an, cn, rfl, -⟩ := hn
  obtain ⟨ad, cd, rfl, -⟩ := hd
  obtain ⟨ab, cb, rfl, -⟩ := hb
  obtain ⟨nn, hnn⟩ : ∃ n, nonce.length = n := ⟨_, rfl⟩
  obtain ⟨nd, hnd⟩ : ∃ n, bound.length = n := ⟨_, rfl⟩
  obtain ⟨L, hL⟩ : ∃ n, b.length = n := ⟨_, rfl⟩
  rw [hnn, hnd, hL] at HV ⊢
  rw [hL] at hbl
  have hL1 : (L : Int) ≤ 65536 := by omega
  clear hnn hnd hL hnl hdl hkl hkl2 hTab hv
  obtain ⟨z32, hz32⟩ : ∃ z, u8s (List.replicate 32 0) = z := ⟨_, rfl⟩
  have hz32v : ∀ W : World, (zeroValue 34).run Tryd.prog W = .ok (.agg z32) W := fun W => by rw [← hz32, zero32]; kernel_rfl
  have HZ0 : Bx (∀ bl : List UInt8, bl.length = 32 → (u8s bl).size = z32.size ∧ (Tryd.prog.info? 34).map (·.size) = some (u8s bl).size) := Bx.mk (fun bl hl => ⟨by rw [← hz32, u8s_size, u8s_size, hl]; rfl, by rw [u8s_size, hl]; kernel_rfl⟩)
  clear hz32
  go_enter Tryd.func44, Tryd.ntmps44
  go_wp2_with fail
  refine (takes_any hk bk nonce _ _ w HV.out.1 HV.out.2.1 (by have := HL.out; omega)).mono ?_
  rintro e w1 ⟨rfl, rfl⟩
  have HT : Bx (decide (nonce.length ≤ 32) = true) := Bx.mk (decide_eq_true HL.out.1)
  rw [HT.out]
  go_wp2_with fail
  refine (sturned_any hk bk nonce b _ _ _ w1 HV.out.1 HV.out.2.1 HV.out.2.2.2 HL.out.1 HL.out.2.2.2.1 (by have := HL.out; omega) HA.out hg).mono ?_
  rintro e w2 ⟨vt, rfl, ho2, hb2⟩
  have HBl : Bx ((trnd hk nonce b).length = L) := Bx.mk (by rw [trnd_length]; obtain ⟨_, _, h, _⟩ := HV.out.2.2.2; injection h with _ e _; exact e.symm)
  generalize hbody : trnd hk nonce b = body at *
  have HBody := Bx.mk hbody
  have H2 := Bx.mk (And.intro ho2 hb2)
  obtain ⟨at_, ct, hvt, -⟩ := ho2.bytes
  rw [HBl.out] at hvt
  subst hvt
  clear ho2 hb2 hbody
  go_wp2_with fail
  have H3 : Bx (Below w1.heap.size w1 (w2.alloc (.cells #[.slice an nn cn, .slice ad nd cd, .slice at_ L ct] 22)) ∧ Parts (w2.alloc (.cells #[.slice an nn cn, .slice ad nd cd, .slice at_ L ct] 22)) (.slice (some ⟨w2.heap.size, 0, none⟩) 3 3) [nonce, bound, body] ∧ OwnB (w2.alloc (.cells #[.slice an nn cn, .slice ad nd cd, .slice at_ L ct] 22)) w1.heap.size (.slice at_ L ct) body) := Bx.mk ⟨H2.out.2.alloc H2.out.2.size _, three_parts (HV.out.2.1.later H2.out.2) (HV.out.2.2.1.later H2.out.2) H2.out.1.bytes, ownB_a H2.out.1 _⟩
  generalize w2.alloc (.cells #[.slice an nn cn, .slice ad nd cd, .slice at_ L ct] 22) = w3 at *
  generalize w2.heap.size = D2 at *
  clear H2
  have HFl : Bx ((frame [nonce, bound, body]).length ≤ 100000000) := Bx.mk (by have h1 := HL.out; have h2 := HBl.out; have := frame3_len nonce bound body 100000 (by omega) (by omega) (by omega); omega)
  have HPl : Bx (∀ p ∈ [nonce, bound, body], p.length ≤ 1000000) := Bx.mk (fun p hp => by have h1 := HL.out; have h2 := HBl.out; simp at hp; rcases hp with rfl | rfl | rfl <;> omega)
  refine (bind_any hk bk [nonce, bound, body] _ _ w3 (HV.out.1.later H3.out.1) H3.out.2.1 HL.out.2.2.2.2 (by simp) HPl.out HFl.out (HA.out.later H3.out.1 hg) (Nat.lt_of_lt_of_le hg H3.out.1.size)).mono ?_
  rintro e w4 ⟨rfl, hb4⟩
  have H4 : Bx (Below w1.heap.size w1 w4 ∧ OwnB w4 w1.heap.size (.slice at_ L ct) body) := Bx.mk ⟨H3.out.1.trans (hb4.mono H3.out.1.size), H3.out.2.2.later hb4 (fun g hg => (H3.out.2.2.lt g hg).1)⟩
  clear hb4 H3
  have HTl : Bx ((hmac bk (frame [nonce, bound, body])).length = 32) := Bx.mk (hmac_length _ _)
  have HTe : Bx (tagB bk nonce bound body = hmac bk (frame [nonce, bound, body])) := Bx.mk rfl
  generalize hmac bk (frame [nonce, bound, body]) = tg at *
  have HZ3 := Bx.mk (HZ0.out tg HTl.out)
  go_upto_region 7 with (refine wpList_store_var rfl 34 _ _ rfl w4 _ _ rfl (by rfl) (u8s tg) (by rfl) HZ3.out.1 HZ3.out.2 (one_u8s _) ?_; intro w5 hb5 hr5 hl5)
  have H5 : Bx (Below w1.heap.size w1 w5 ∧ OwnB w5 w1.heap.size (.slice at_ L ct) body ∧ Bytes w5 (.slice (some ⟨w4.heap.size, 0, none⟩) 32 32) tg) := Bx.mk ⟨H4.out.1.trans (hb5.mono H4.out.1.size), H4.out.2.later hb5 (fun g hg => (H4.out.2.lt g hg).1), row_bytes hr5 HTl.out⟩
  clear hb5 hr5 hl5 H4
  generalize w4.heap.size = D4 at *
  go_wp2_with (refine wpList_ap rfl _ _ rfl w1.heap.size _ body (by rfl) H5.out.2.1 _ tg (by rfl) H5.out.2.2 (by have h1 := HL.out; have h2 := HBl.out; have h3 := HTl.out; omega) H5.out.1.size ?_; intro v6 w6 ho6 hg6 _; have H6 : Bx (OwnB w6 w1.heap.size v6 (body ++ tg) ∧ Below w1.heap.size w1 w6) := Bx.mk ⟨ho6, H5.out.1.trans (own_below H5.out.2.1 hg6 H5.out.1.size)⟩; clear ho6 hg6)
  go_ret2
  exact ⟨_, rfl, by rw [HBody.out, HTe.out]; exact H6.out.1, H6.out.2⟩
set_option maxRecDepth 100000 in
theorem sealed_arg (hk bk nonce : List UInt8) (v vn vd vb : Value) (w : World) (hv : IsPair w v hk bk) (hn : Bytes w vn nonce) (hnl : 32 < nonce.length) (hnl2 : nonce.length ≤ 140737488355328) :
    Calls Tryd.prog 44 #[v, vn, vd, vb] w fun e w' => e = .returned (.tuple #[.slice none 0 0, .int .i64 1]) ∧ w' = w := by
  have HV := Bx.mk (And.intro hv hn)
  have HT : Bx (decide (nonce.length ≤ 32) = false ∧ nonce.length ≤ 140737488355328) := Bx.mk ⟨decide_eq_false (by omega), hnl2⟩
  obtain ⟨p, rfl⟩ := hv.form
  clear hv hn hnl hnl2
  go_enter Tryd.func44, Tryd.ntmps44
  go_wp2_with fail
  refine (takes_any hk bk nonce _ _ w HV.out.1 HV.out.2 HT.out.2).mono ?_
  rintro e w1 ⟨rfl, rfl⟩
  rw [HT.out.1]
  go_wp2
  go_ret2
  exact ⟨rfl, rfl⟩
set_option maxRecDepth 100000 in
theorem sealed_nil (vn vd vb : Value) (w : World) :
    Calls Tryd.prog 44 #[.pointer none, vn, vd, vb] w fun e w' => e = .returned (.tuple #[.slice none 0 0, .int .i64 1]) ∧ w' = w := by
  go_enter Tryd.func44, Tryd.ntmps44
  go_wp2_with fail
  refine (takes_nil _ w).mono ?_
  rintro e w1 ⟨rfl, rfl⟩
  go_wp2
  go_ret2
  exact ⟨rfl, rfl⟩
set_option maxRecDepth 100000 in
theorem sealed_long (hk bk nonce b : List UInt8) (v vn vd vb : Value) (w : World) (hv : IsPair w v hk bk) (hn : Bytes w vn nonce) (hb : Bytes w vb b) (hnl : nonce.length ≤ 32) (hbl : 65536 < b.length) (hbl2 : b.length ≤ 140737488355328) :
    Calls Tryd.prog 44 #[v, vn, vd, vb] w fun e w' => e = .returned (.tuple #[.slice none 0 0, .int .i64 2]) ∧ w' = w := by
  have HV := Bx.mk (And.intro hv hn)
  have HT : Bx (decide (nonce.length ≤ 32) = true ∧ nonce.length ≤ 140737488355328) := Bx.mk ⟨decide_eq_true (by omega), by omega⟩
  obtain ⟨p, rfl⟩ := hv.form
  obtain ⟨ab, cb, rfl, -⟩ := hb
  obtain ⟨L, hL⟩ : ∃ n, b.length = n := ⟨_, rfl⟩
  rw [hL] at hbl hbl2 ⊢
  have hL1 : (65536 : Int) < (L : Int) := by omega
  have hL2 : (L : Int) ≤ 140737488355328 := by omega
  clear hv hn hnl hL
  go_enter Tryd.func44, Tryd.ntmps44
  go_wp2_with fail
  refine (takes_any hk bk nonce _ _ w HV.out.1 HV.out.2 HT.out.2).mono ?_
  rintro e w1 ⟨rfl, rfl⟩
  rw [HT.out.1]
  go_wp2
  go_ret2
  exact ⟨rfl, rfl⟩
end Go.Proofs.YtcaehkglfliihaaDoor
