/-
  What cuts bytes, and the example of the third layer.
-/
import Derived.Test.YtcaehkglfliihaaDoorSi
import Derived.Lib.SlBytesConst
namespace Go.Proofs.YtcaehkglfliihaaDoor
open Go Go.RowKit
set_option maxRecDepth 100000 in
theorem cut3_any (bs : List UInt8) (k : Nat) (v : Value) (w : World) (hv : Bytes w v bs) (hl : bs.length ≤ 9223372036854775807) (hk : k ≤ 1000000) :
    Calls Tryd.prog 21 #[v, .int .i64 (k : Int)] w fun e w' => ∃ v', e = .returned v' ∧ Bytes w' v' (bs.take k) ∧ w' = w := by
  have HV := Bx.mk hv
  obtain ⟨a, cap, rfl, hc, hnone, -⟩ := hv
  obtain ⟨n, hn⟩ : ∃ n, bs.length = n := ⟨_, rfl⟩
  have HN := Bx.mk hn
  rw [hn] at HV hl hc ⊢
  have hn1 : (n : Int) ≤ 9223372036854775807 := by omega
  have hk1 : (k : Int) ≤ 1000000 := by omega
  by_cases hlt : k < n
  · have t1 : (k : Int) < (n : Int) := by omega
    have t2 : (k : Int) ≤ (cap : Int) := by omega
    have s1 := fun W => cut_bytes a n cap k (by omega) (by omega) hnone W
    have HB : Bx (Bytes w (.slice a k cap) (bs.take k)) := Bx.mk (HV.out.take k (by omega))
    clear hn hnone hc HV
    go_enter Tryd.func21, Tryd.ntmps21
    go_wp2
    go_ret
    exact ⟨_, rfl, HB.out, rfl⟩
  · have t1 : ¬ (k : Int) < (n : Int) := by omega
    have t2 : (n : Int) ≤ (cap : Int) := by omega
    have s1 := fun W => cut_bytes a n cap n (by omega) (by omega) hnone W
    have HB : Bx (Bytes w (.slice a n cap) (bs.take k)) := Bx.mk (by rw [List.take_of_length_le (by omega)]; exact HV.out)
    clear hn hnone hc HV
    go_enter Tryd.func21, Tryd.ntmps21
    go_wp2
    go_ret
    exact ⟨_, rfl, HB.out, rfl⟩
theorem seal_take (key nonce bound b : List UInt8) : (sealB key nonce bound b).take ((sealB key nonce bound b).length - 32) = trnd (hideK key) nonce b := by
  rw [sealB_length, Nat.add_sub_cancel]
  unfold sealB
  rw [List.take_left' (trnd_length _ _ _)]
theorem seal_drop (key nonce bound b : List UInt8) : (sealB key nonce bound b).drop ((sealB key nonce bound b).length - 32) = tagB (bindK key) nonce bound (trnd (hideK key) nonce b) := by
  rw [sealB_length, Nat.add_sub_cancel]
  unfold sealB
  rw [List.drop_left' (trnd_length _ _ _)]
/-- What is sealed is opened as it was. -/
theorem open_sealed (key nonce bound b : List UInt8) (v vn vd vs : Value) (w : World) (hv : IsKey w v key) (hn : Bytes w vn nonce) (hd : Bytes w vd bound) (hb : Bytes w vs (sealB key nonce bound b)) (hk : key.length ≤ 1000000) (hnl : nonce.length ≤ 32) (hdl : bound.length ≤ 100000) (hbl : b.length ≤ 65536) (hTab : Tab w) (hg : 0 < w.heap.size) :
    Calls Tryd.prog 25 #[v, vn, vd, vs] w fun e w' => ∃ v', e = .returned (.tuple #[v', .int .i64 0]) ∧ OwnB w' w.heap.size v' b ∧ Below w.heap.size w w' := by
  refine (open_in key nonce bound (sealB key nonce bound b) v vn vd vs w hv hn hd hb hk hnl hdl (by rw [sealB_length]; omega) (by rw [sealB_length]; omega) hTab hg).mono ?_
  rintro e w' (⟨-, v', he, ho, hbl⟩ | ⟨hne, -⟩)
  · rw [seal_take, trnd_twice] at ho
    exact ⟨v', he, ho, hbl⟩
  · exact absurd (by rw [seal_take, seal_drop]) hne
def key3 : List UInt8 := [107, 101, 121]
def sec3 : List UInt8 := [115, 101, 99, 114, 101, 116]
set_option maxRecDepth 100000 in
set_option maxHeartbeats 1000000 in
theorem known3_any (w : World) (hTab : Tab w) (hg : 0 < w.heap.size) : Calls Tryd.prog 24 #[] w fun e w' => e = .returned (.bool true) ∧ Below w.heap.size w w' := by
  have HA := Bx.mk hTab
  clear hTab
  have kc := fun (w : World) (C : Array Value) (n c : Nat) => Lib.run_convert_bytes_const (P := Tryd.prog) w 22 5 C n c Tryd.underlying22 Tryd.underlying5
  have B0 : Bx (∀ W : World, Bytes (W.alloc (.cells #[Value.int IntKind.u8 107, Value.int IntKind.u8 101, Value.int IntKind.u8 121] 5 (3, 4))) (.slice (some ⟨W.heap.size, 0, none⟩) 3 3) key3) := Bx.mk (fun W => const_bytes (l := key3) (fr := (3, 4)) (hnew _ _ _ rfl) rfl)
  have B1 : Bx (∀ W : World, Bytes (W.alloc (.cells #[Value.int IntKind.u8 110] 5 (1, 2))) (.slice (some ⟨W.heap.size, 0, none⟩) 1 1) [110]) := Bx.mk (fun W => const_bytes (l := [110]) (fr := (1, 2)) (hnew _ _ _ rfl) rfl)
  have B2 : Bx (∀ W : World, Bytes (W.alloc (.cells #[Value.int IntKind.u8 115, Value.int IntKind.u8 101, Value.int IntKind.u8 99, Value.int IntKind.u8 114, Value.int IntKind.u8 101, Value.int IntKind.u8 116] 5 (6, 7))) (.slice (some ⟨W.heap.size, 0, none⟩) 6 6) sec3) := Bx.mk (fun W => const_bytes (l := sec3) (fr := (6, 7)) (hnew _ _ _ rfl) rfl)
  go_enter Tryd.func24, Tryd.ntmps24
  go_wp2_with fail
  refine (new_any key3 _ _ (B0.out w) (by decide)).mono ?_
  rintro e w1 ⟨v1, rfl, hk1, hb1⟩
  have H1 : Bx (IsKey w1 v1 key3 ∧ Below w.heap.size w w1) := Bx.mk ⟨hk1.key, (below_a _).trans (hb1.mono (below_a _).size)⟩
  obtain ⟨p1, rfl⟩ := hk1.key.form
  clear hk1 hb1
  have kc2 := kc (w1.alloc (.cells #[Value.int IntKind.u8 110] 5 (1, 2))) #[Value.int IntKind.u8 115, Value.int IntKind.u8 101, Value.int IntKind.u8 99, Value.int IntKind.u8 114, Value.int IntKind.u8 101, Value.int IntKind.u8 116] 6 6
  rw [show (w1.alloc (.cells #[Value.int IntKind.u8 110] 5 (1, 2))).heap.size = w1.heap.size + 1 by simp] at kc2
  have H2 : Bx (Bytes ((w1.alloc (.cells #[Value.int IntKind.u8 110] 5 (1, 2))).alloc (.cells #[Value.int IntKind.u8 115, Value.int IntKind.u8 101, Value.int IntKind.u8 99, Value.int IntKind.u8 114, Value.int IntKind.u8 101, Value.int IntKind.u8 116] 5 (6, 7))) (.slice (some ⟨w1.heap.size, 0, none⟩) 1 1) [110] ∧ Bytes ((w1.alloc (.cells #[Value.int IntKind.u8 110] 5 (1, 2))).alloc (.cells #[Value.int IntKind.u8 115, Value.int IntKind.u8 101, Value.int IntKind.u8 99, Value.int IntKind.u8 114, Value.int IntKind.u8 101, Value.int IntKind.u8 116] 5 (6, 7))) (.slice (some ⟨w1.heap.size + 1, 0, none⟩) 6 6) sec3 ∧ Below w1.heap.size w1 ((w1.alloc (.cells #[Value.int IntKind.u8 110] 5 (1, 2))).alloc (.cells #[Value.int IntKind.u8 115, Value.int IntKind.u8 101, Value.int IntKind.u8 99, Value.int IntKind.u8 114, Value.int IntKind.u8 101, Value.int IntKind.u8 116] 5 (6, 7)))) := Bx.mk (by
    have h := B2.out (w1.alloc (.cells #[Value.int IntKind.u8 110] 5 (1, 2)))
    rw [show (w1.alloc (.cells #[Value.int IntKind.u8 110] 5 (1, 2))).heap.size = w1.heap.size + 1 by simp] at h
    exact ⟨(B1.out w1).later (below_a _), h, (below_a _).trans ((below_a _).mono (below_a _).size)⟩)
  go_wp2_with fail
  generalize (w1.alloc (.cells #[Value.int IntKind.u8 110] 5 (1, 2))).alloc (.cells #[Value.int IntKind.u8 115, Value.int IntKind.u8 101, Value.int IntKind.u8 99, Value.int IntKind.u8 114, Value.int IntKind.u8 101, Value.int IntKind.u8 116] 5 (6, 7)) = w2 at *
  clear kc2
  refine (seal_ok key3 [110] [] sec3 _ _ _ _ w2 (H1.out.1.later H2.out.2.2) H2.out.1 (Bytes.nil _) H2.out.2.1 (by decide) (by decide) (by decide) (by decide) (HA.out.later (H1.out.2.trans (H2.out.2.2.mono H1.out.2.size)) hg) (Nat.lt_of_lt_of_le hg (H1.out.2.trans (H2.out.2.2.mono H1.out.2.size)).size)).mono ?_
  rintro e w3 ⟨v3, rfl, ho3, hb3⟩
  have HSl : Bx ((sealB key3 [110] [] sec3).length = 38) := Bx.mk (sealB_length _ _ _ _)
  have H3 : Bx (Bytes w3 v3 (sealB key3 [110] [] sec3) ∧ Below w.heap.size w w3) := Bx.mk ⟨ho3.bytes, (H1.out.2.trans (H2.out.2.2.mono H1.out.2.size)).trans (hb3.mono (H1.out.2.trans (H2.out.2.2.mono H1.out.2.size)).size)⟩
  obtain ⟨a3, c3, hv3, -⟩ := ho3.bytes
  rw [HSl.out] at hv3
  subst hv3
  clear ho3 hb3 H1 H2
  go_wp2_with fail
  refine (new_any key3 _ _ (B0.out w3) (by decide)).mono ?_
  rintro e w4 ⟨v4, rfl, hk4, hb4⟩
  have H4 : Bx (IsKey w4 v4 key3 ∧ Below w.heap.size w w4 ∧ Bytes w4 (.slice a3 38 c3) (sealB key3 [110] [] sec3)) := Bx.mk ⟨hk4.key, H3.out.2.trans (((below_a _).trans (hb4.mono (below_a _).size)).mono H3.out.2.size), (H3.out.1.later (below_a _)).later hb4⟩
  obtain ⟨p4, rfl⟩ := hk4.key.form
  clear hk4 hb4 H3
  go_wp2_with fail
  have H5 : Bx (Bytes (w4.alloc (.cells #[Value.int IntKind.u8 110] 5 (1, 2))) (.slice (some ⟨w4.heap.size, 0, none⟩) 1 1) [110] ∧ IsKey (w4.alloc (.cells #[Value.int IntKind.u8 110] 5 (1, 2))) (.pointer (some ⟨p4, 0, none⟩)) key3 ∧ Below w.heap.size w (w4.alloc (.cells #[Value.int IntKind.u8 110] 5 (1, 2))) ∧ Bytes (w4.alloc (.cells #[Value.int IntKind.u8 110] 5 (1, 2))) (.slice a3 38 c3) (sealB key3 [110] [] sec3)) := Bx.mk ⟨B1.out w4, H4.out.1.later (below_a _), H4.out.2.1.alloc H4.out.2.1.size _, H4.out.2.2.later (below_a _)⟩
  generalize w4.alloc (.cells #[Value.int IntKind.u8 110] 5 (1, 2)) = w5 at *
  generalize w4.heap.size = D4 at *
  clear H4
  refine (open_sealed key3 [110] [] sec3 _ _ _ _ w5 H5.out.2.1 H5.out.1 (Bytes.nil _) H5.out.2.2.2 (by decide) (by decide) (by decide) (by decide) (HA.out.later H5.out.2.2.1 hg) (Nat.lt_of_lt_of_le hg H5.out.2.2.1.size)).mono ?_
  rintro e w6 ⟨v6, rfl, ho6, hb6⟩
  have hstr := run_str w6 v6 sec3 ho6.bytes
  have H6 : Bx (Below w.heap.size w w6) := Bx.mk (H5.out.2.2.1.trans (hb6.mono H5.out.2.2.1.size))
  clear ho6 hb6 H5 kc
  go_wp2
  go_ret
  exact ⟨rfl, H6.out⟩
end Go.Proofs.YtcaehkglfliihaaDoor
