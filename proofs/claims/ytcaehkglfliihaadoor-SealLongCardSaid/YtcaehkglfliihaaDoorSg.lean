/-
  The walks of Seal, Open and Stream.
-/
import Derived.Test.YtcaehkglfliihaaDoorSf
namespace Go.Proofs.YtcaehkglfliihaaDoor
open Go Go.RowKit
set_option maxRecDepth 100000 in
set_option maxHeartbeats 400000 in
theorem seal_ok (key nonce bound b : List UInt8) (v vn vd vb : Value) (w : World) (hv : IsKey w v key) (hn : Bytes w vn nonce) (hd : Bytes w vd bound) (hb : Bytes w vb b) (hk : key.length ≤ 1000000) (hnl : nonce.length ≤ 32) (hdl : bound.length ≤ 100000) (hbl : b.length ≤ 65536) (hTab : Tab w) (hg : 0 < w.heap.size) :
    Calls Tryd.prog 22 #[v, vn, vd, vb] w fun e w' => ∃ v', e = .returned (.tuple #[v', .int .i64 0]) ∧ OwnB w' w.heap.size v' (sealB key nonce bound b) ∧ Below w.heap.size w w' := by
  have HV := Bx.mk (And.intro hv (And.intro hn (And.intro hd hb)))
  have HK := Bx.mk hk
  have HL := Bx.mk (And.intro hnl (And.intro hdl hbl))
  clear hn hd hb hk hnl hdl hbl
  have HA := Bx.mk hTab
  obtain ⟨p, rfl⟩ := hv.form
  clear hTab hv
  go_enter Tryd.func22, Tryd.ntmps22
  go_wp2_with fail
  refine (derived_any key _ w HV.out.1 HK.out HA.out hg).mono ?_
  rintro e w1 ⟨vp, rfl, hp1, hb1⟩
  have H1 := Bx.mk (And.intro hp1 hb1)
  obtain ⟨q, rfl⟩ := hp1.form
  clear hp1 hb1
  go_wp2_with fail
  refine (sealed_ok (hideK key) (bindK key) nonce bound b _ _ _ _ w1 H1.out.1 (HV.out.2.1.later H1.out.2) (HV.out.2.2.1.later H1.out.2) (HV.out.2.2.2.later H1.out.2) HL.out.1 HL.out.2.1 HL.out.2.2 (by rw [show (hideK key).length = 32 from hmac_length _ _]; omega) (by rw [show (bindK key).length = 32 from hmac_length _ _]; omega) (HA.out.later H1.out.2 hg) (Nat.lt_of_lt_of_le hg H1.out.2.size)).mono ?_
  rintro e w2 ⟨vs, rfl, ho2, hb2⟩
  have H2 : Bx (OwnB w2 w.heap.size vs (sealB key nonce bound b) ∧ Below w.heap.size w w2) := Bx.mk ⟨ho2.weak H1.out.2.size, H1.out.2.trans (hb2.mono H1.out.2.size)⟩
  clear ho2 hb2
  go_wp2
  go_ret2
  exact ⟨_, rfl, H2.out⟩
set_option maxRecDepth 100000 in
set_option maxHeartbeats 400000 in
theorem seal_arg (key nonce : List UInt8) (v vn vd vb : Value) (w : World) (hv : IsKey w v key) (hn : Bytes w vn nonce) (hk : key.length ≤ 1000000) (hnl : 32 < nonce.length) (hnl2 : nonce.length ≤ 140737488355328) (hTab : Tab w) (hg : 0 < w.heap.size) :
    Calls Tryd.prog 22 #[v, vn, vd, vb] w fun e w' => e = .returned (.tuple #[.slice none 0 0, .int .i64 1]) ∧ Below w.heap.size w w' := by
  have HV := Bx.mk (And.intro hv hn)
  have HK := Bx.mk hk
  have HL := Bx.mk (And.intro hnl hnl2)
  clear hn hk hnl hnl2
  have HA := Bx.mk hTab
  obtain ⟨p, rfl⟩ := hv.form
  clear hTab hv
  go_enter Tryd.func22, Tryd.ntmps22
  go_wp2_with fail
  refine (derived_any key _ w HV.out.1 HK.out HA.out hg).mono ?_
  rintro e w1 ⟨vp, rfl, hp1, hb1⟩
  have H1 := Bx.mk (And.intro hp1 hb1)
  obtain ⟨q, rfl⟩ := hp1.form
  clear hp1 hb1
  go_wp2_with fail
  refine (sealed_arg (hideK key) (bindK key) nonce _ _ _ _ w1 H1.out.1 (HV.out.2.later H1.out.2) HL.out.1 HL.out.2).mono ?_
  rintro e w2 ⟨rfl, rfl⟩
  go_wp2
  all_goals (go_ret2; exact ⟨rfl, H1.out.2⟩)
set_option maxRecDepth 100000 in
set_option maxHeartbeats 400000 in
theorem seal_long (key nonce b : List UInt8) (v vn vd vb : Value) (w : World) (hv : IsKey w v key) (hn : Bytes w vn nonce) (hb : Bytes w vb b) (hk : key.length ≤ 1000000) (hnl : nonce.length ≤ 32) (hbl : 65536 < b.length) (hbl2 : b.length ≤ 140737488355328) (hTab : Tab w) (hg : 0 < w.heap.size) :
    Calls Tryd.prog 22 #[v, vn, vd, vb] w fun e w' => e = .returned (.tuple #[.slice none 0 0, .int .i64 2]) ∧ Below w.heap.size w w' := by
  have HV := Bx.mk (And.intro hv (And.intro hn hb))
  have HK := Bx.mk hk
  have HL := Bx.mk (And.intro hnl (And.intro hbl hbl2))
  clear hn hb hk hnl hbl hbl2
  have HA := Bx.mk hTab
  obtain ⟨p, rfl⟩ := hv.form
  clear hTab hv
  go_enter Tryd.func22, Tryd.ntmps22
  go_wp2_with fail
  refine (derived_any key _ w HV.out.1 HK.out HA.out hg).mono ?_
  rintro e w1 ⟨vp, rfl, hp1, hb1⟩
  have H1 := Bx.mk (And.intro hp1 hb1)
  obtain ⟨q, rfl⟩ := hp1.form
  clear hp1 hb1
  go_wp2_with fail
  refine (sealed_long (hideK key) (bindK key) nonce b _ _ _ _ w1 H1.out.1 (HV.out.2.1.later H1.out.2) (HV.out.2.2.later H1.out.2) HL.out.1 HL.out.2.1 HL.out.2.2).mono ?_
  rintro e w2 ⟨rfl, rfl⟩
  go_wp2
  all_goals (go_ret2; exact ⟨rfl, H1.out.2⟩)
/-- What opening under a key gives. -/
def OpensQ (key nonce bound sl : List UInt8) (w : World) (e : Ending) (w' : World) : Prop :=
  (tagB (bindK key) nonce bound (sl.take (sl.length - 32)) = sl.drop (sl.length - 32) ∧ ∃ v', e = .returned (.tuple #[v', .int .i64 0]) ∧ OwnB w' w.heap.size v' (trnd (hideK key) nonce (sl.take (sl.length - 32))) ∧ Below w.heap.size w w') ∨
  (tagB (bindK key) nonce bound (sl.take (sl.length - 32)) ≠ sl.drop (sl.length - 32) ∧ e = .returned (.tuple #[.slice none 0 0, .int .i64 5]) ∧ Below w.heap.size w w')
set_option maxRecDepth 100000 in
set_option maxHeartbeats 400000 in
theorem open_in (key nonce bound b : List UInt8) (v vn vd vb : Value) (w : World) (hv : IsKey w v key) (hn : Bytes w vn nonce) (hd : Bytes w vd bound) (hb : Bytes w vb b) (hk : key.length ≤ 1000000) (hnl : nonce.length ≤ 32) (hdl : bound.length ≤ 100000) (h32 : 32 ≤ b.length) (hbl : b.length ≤ 65568) (hTab : Tab w) (hg : 0 < w.heap.size) :
    Calls Tryd.prog 25 #[v, vn, vd, vb] w fun e w' => OpensQ key nonce bound b w e w' := by
  have HV := Bx.mk (And.intro hv (And.intro hn (And.intro hd hb)))
  have HK := Bx.mk hk
  have HL := Bx.mk (And.intro hnl (And.intro hdl (And.intro h32 hbl)))
  clear hn hd hb hk hnl hdl h32 hbl
  have HA := Bx.mk hTab
  obtain ⟨p, rfl⟩ := hv.form
  clear hTab hv
  go_enter Tryd.func25, Tryd.ntmps25
  go_wp2_with fail
  refine (derived_any key _ w HV.out.1 HK.out HA.out hg).mono ?_
  rintro e w1 ⟨vp, rfl, hp1, hb1⟩
  have H1 := Bx.mk (And.intro hp1 hb1)
  obtain ⟨q, rfl⟩ := hp1.form
  clear hp1 hb1
  go_wp2_with fail
  refine (opened_in (hideK key) (bindK key) nonce bound b _ _ _ _ w1 H1.out.1 (HV.out.2.1.later H1.out.2) (HV.out.2.2.1.later H1.out.2) (HV.out.2.2.2.later H1.out.2) HL.out.1 HL.out.2.1 HL.out.2.2.1 HL.out.2.2.2 (by rw [show (hideK key).length = 32 from hmac_length _ _]; omega) (by rw [show (bindK key).length = 32 from hmac_length _ _]; omega) (HA.out.later H1.out.2 hg) (Nat.lt_of_lt_of_le hg H1.out.2.size)).mono ?_
  rintro e w2 (⟨ht, vs, rfl, ho2, hb2⟩ | ⟨ht, rfl, hb2⟩)
  · have H2 : Bx (OwnB w2 w.heap.size vs (trnd (hideK key) nonce (b.take (b.length - 32))) ∧ Below w.heap.size w w2) := Bx.mk ⟨ho2.weak H1.out.2.size, H1.out.2.trans (hb2.mono H1.out.2.size)⟩
    have HT := Bx.mk ht
    clear ho2 hb2 ht
    go_wp2
    go_ret2
    exact Or.inl ⟨HT.out, _, rfl, H2.out⟩
  · have H2 : Bx (Below w.heap.size w w2) := Bx.mk (H1.out.2.trans (hb2.mono H1.out.2.size))
    have HT := Bx.mk ht
    clear hb2 ht
    go_wp2
    go_ret2
    exact Or.inr ⟨HT.out, rfl, H2.out⟩
set_option maxRecDepth 100000 in
set_option maxHeartbeats 400000 in
theorem open_arg (key nonce : List UInt8) (v vn vd vb : Value) (w : World) (hv : IsKey w v key) (hn : Bytes w vn nonce) (hk : key.length ≤ 1000000) (hnl : 32 < nonce.length) (hnl2 : nonce.length ≤ 140737488355328) (hTab : Tab w) (hg : 0 < w.heap.size) :
    Calls Tryd.prog 25 #[v, vn, vd, vb] w fun e w' => e = .returned (.tuple #[.slice none 0 0, .int .i64 1]) ∧ Below w.heap.size w w' := by
  have HV := Bx.mk (And.intro hv hn)
  have HK := Bx.mk hk
  have HL := Bx.mk (And.intro hnl hnl2)
  clear hn hk hnl hnl2
  have HA := Bx.mk hTab
  obtain ⟨p, rfl⟩ := hv.form
  clear hTab hv
  go_enter Tryd.func25, Tryd.ntmps25
  go_wp2_with fail
  refine (derived_any key _ w HV.out.1 HK.out HA.out hg).mono ?_
  rintro e w1 ⟨vp, rfl, hp1, hb1⟩
  have H1 := Bx.mk (And.intro hp1 hb1)
  obtain ⟨q, rfl⟩ := hp1.form
  clear hp1 hb1
  go_wp2_with fail
  refine (opened_arg (hideK key) (bindK key) nonce _ _ _ _ w1 H1.out.1 (HV.out.2.later H1.out.2) HL.out.1 HL.out.2).mono ?_
  rintro e w2 ⟨rfl, rfl⟩
  go_wp2
  all_goals (go_ret2; exact ⟨rfl, H1.out.2⟩)
set_option maxRecDepth 100000 in
set_option maxHeartbeats 400000 in
theorem open_out (key nonce b : List UInt8) (v vn vd vb : Value) (w : World) (hv : IsKey w v key) (hn : Bytes w vn nonce) (hb : Bytes w vb b) (hk : key.length ≤ 1000000) (hnl : nonce.length ≤ 32) (hbl : b.length < 32 ∨ 65568 < b.length) (hbl2 : b.length ≤ 140737488355328) (hTab : Tab w) (hg : 0 < w.heap.size) :
    Calls Tryd.prog 25 #[v, vn, vd, vb] w fun e w' => e = .returned (.tuple #[.slice none 0 0, .int .i64 (if b.length < 32 then 4 else 2)]) ∧ Below w.heap.size w w' := by
  have HV := Bx.mk (And.intro hv (And.intro hn hb))
  have HK := Bx.mk hk
  have HL := Bx.mk (And.intro hnl (And.intro hbl hbl2))
  clear hn hb hk hnl hbl hbl2
  have HA := Bx.mk hTab
  obtain ⟨p, rfl⟩ := hv.form
  clear hTab hv
  go_enter Tryd.func25, Tryd.ntmps25
  go_wp2_with fail
  refine (derived_any key _ w HV.out.1 HK.out HA.out hg).mono ?_
  rintro e w1 ⟨vp, rfl, hp1, hb1⟩
  have H1 := Bx.mk (And.intro hp1 hb1)
  obtain ⟨q, rfl⟩ := hp1.form
  clear hp1 hb1
  go_wp2_with fail
  refine (opened_out (hideK key) (bindK key) nonce b _ _ _ _ w1 H1.out.1 (HV.out.2.1.later H1.out.2) (HV.out.2.2.later H1.out.2) HL.out.1 HL.out.2.1 HL.out.2.2).mono ?_
  rintro e w2 ⟨rfl, rfl⟩
  go_wp2
  all_goals (go_ret2; exact ⟨rfl, H1.out.2⟩)
set_option maxRecDepth 100000 in
theorem seal_nil (vn vd vb : Value) (w : World) : Calls Tryd.prog 22 #[.pointer none, vn, vd, vb] w fun e w' => e = .returned (.tuple #[.slice none 0 0, .int .i64 1]) ∧ w' = w := by
  go_enter Tryd.func22, Tryd.ntmps22
  go_wp2_with fail
  refine (derived_nil w).mono ?_
  rintro e w1 ⟨rfl, rfl⟩
  go_wp2_with fail
  refine (sealed_nil _ _ _ w).mono ?_
  rintro e w2 ⟨rfl, rfl⟩
  go_wp2
  go_ret2
  exact ⟨rfl, rfl⟩
set_option maxRecDepth 100000 in
theorem open_nil (vn vd vb : Value) (w : World) : Calls Tryd.prog 25 #[.pointer none, vn, vd, vb] w fun e w' => e = .returned (.tuple #[.slice none 0 0, .int .i64 1]) ∧ w' = w := by
  go_enter Tryd.func25, Tryd.ntmps25
  go_wp2_with fail
  refine (derived_nil w).mono ?_
  rintro e w1 ⟨rfl, rfl⟩
  go_wp2_with fail
  refine (opened_nil _ _ _ w).mono ?_
  rintro e w2 ⟨rfl, rfl⟩
  go_wp2
  go_ret2
  exact ⟨rfl, rfl⟩
end Go.Proofs.YtcaehkglfliihaaDoor
