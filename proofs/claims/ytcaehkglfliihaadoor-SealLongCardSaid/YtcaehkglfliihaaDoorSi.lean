/-
  The walks of Stream, and of a sealer.
-/
import Derived.Test.YtcaehkglfliihaaDoorSh
namespace Go.Proofs.YtcaehkglfliihaaDoor
open Go Go.RowKit
set_option maxRecDepth 100000 in
set_option maxHeartbeats 400000 in
theorem strm_ok (key nonce : List UInt8) (n : Nat) (v vn : Value) (w : World) (hv : IsKey w v key) (hn : Bytes w vn nonce) (hk : key.length ≤ 1000000) (hnl : nonce.length ≤ 32) (hN : n ≤ 65536) (hTab : Tab w) (hg : 0 < w.heap.size) :
    Calls Tryd.prog 23 #[v, vn, .int .i64 (n : Int)] w (StrmQ (hideK key) nonce n w) := by
  have HV := Bx.mk (And.intro hv hn)
  have HK := Bx.mk hk
  have HL := Bx.mk (And.intro hnl hN)
  have HA := Bx.mk hTab
  obtain ⟨p, rfl⟩ := hv.form
  clear hTab hv hn hk hnl hN
  go_enter Tryd.func23, Tryd.ntmps23
  go_wp2_with fail
  refine (derived_any key _ w HV.out.1 HK.out HA.out hg).mono ?_
  rintro e w1 ⟨vp, rfl, hp1, hb1⟩
  have H1 := Bx.mk (And.intro hp1 hb1)
  obtain ⟨q, rfl⟩ := hp1.form
  clear hp1 hb1
  go_wp2_with fail
  refine (stream_ok (hideK key) (bindK key) nonce n _ _ w1 H1.out.1 (HV.out.2.later H1.out.2) HL.out.1 (by rw [show (hideK key).length = 32 from hmac_length _ _]; omega) HL.out.2 (HA.out.later H1.out.2 hg) (Nat.lt_of_lt_of_le hg H1.out.2.size)).mono ?_
  rintro e w2 ⟨vs, rfl, ho2, hb2⟩
  have H2 : Bx (Bytes w2 vs (strm (hideK key) nonce n) ∧ Below w.heap.size w w2) := Bx.mk ⟨ho2, H1.out.2.trans (hb2.mono H1.out.2.size)⟩
  clear ho2 hb2
  go_wp2
  go_ret2
  exact ⟨_, rfl, H2.out⟩
set_option maxRecDepth 100000 in
theorem stream_bad (hk bk nonce : List UInt8) (z : Int) (v vn : Value) (w : World) (hv : IsPair w v hk bk) (hn : Bytes w vn nonce) (hnl2 : nonce.length ≤ 140737488355328) (h1 : -9223372036854775808 ≤ z) (h2 : z ≤ 9223372036854775807) (hbad : 32 < nonce.length ∨ z < 0 ∨ 65536 < z) :
    Calls Tryd.prog 45 #[v, vn, .int .i64 z] w fun e w' => e = .returned (.tuple #[.slice none 0 0, .int .i64 (if 32 < nonce.length ∨ z < 0 then 1 else 2)]) ∧ w' = w := by
  have HV := Bx.mk (And.intro hv (And.intro hn hnl2))
  obtain ⟨p, rfl⟩ := hv.form
  by_cases h32 : 32 < nonce.length
  · have HT : Bx (decide (nonce.length ≤ 32) = false) := Bx.mk (decide_eq_false (by omega))
    rw [if_pos (Or.inl h32)]
    clear hv hn hnl2 hbad h32
    go_enter Tryd.func45, Tryd.ntmps45
    go_wp2_with fail
    refine (takes_any hk bk nonce _ _ w HV.out.1 HV.out.2.1 HV.out.2.2).mono ?_
    rintro e w1 ⟨rfl, rfl⟩
    rw [HT.out]
    go_wp2
    go_ret2
    exact ⟨rfl, rfl⟩
  · have HT : Bx (decide (nonce.length ≤ 32) = true) := Bx.mk (decide_eq_true (by omega))
    by_cases hz : z < 0
    · rw [if_pos (Or.inr hz)]
      clear hv hn hnl2 hbad h32
      go_enter Tryd.func45, Tryd.ntmps45
      go_wp2_with fail
      refine (takes_any hk bk nonce _ _ w HV.out.1 HV.out.2.1 HV.out.2.2).mono ?_
      rintro e w1 ⟨rfl, rfl⟩
      rw [HT.out]
      go_wp2
      go_ret2
      exact ⟨rfl, rfl⟩
    · rw [if_neg (by omega)]
      have hz2 : 65536 < z := by omega
      clear hv hn hnl2 hbad h32
      go_enter Tryd.func45, Tryd.ntmps45
      go_wp2_with fail
      refine (takes_any hk bk nonce _ _ w HV.out.1 HV.out.2.1 HV.out.2.2).mono ?_
      rintro e w1 ⟨rfl, rfl⟩
      rw [HT.out]
      go_wp2
      go_ret2
      exact ⟨rfl, rfl⟩
set_option maxRecDepth 100000 in
set_option maxHeartbeats 400000 in
theorem strm_bad (key nonce : List UInt8) (z : Int) (v vn : Value) (w : World) (hv : IsKey w v key) (hn : Bytes w vn nonce) (hk : key.length ≤ 1000000) (hnl2 : nonce.length ≤ 140737488355328) (h1 : -9223372036854775808 ≤ z) (h2 : z ≤ 9223372036854775807) (hbad : 32 < nonce.length ∨ z < 0 ∨ 65536 < z) (hTab : Tab w) (hg : 0 < w.heap.size) :
    Calls Tryd.prog 23 #[v, vn, .int .i64 z] w fun e w' => e = .returned (.tuple #[.slice none 0 0, .int .i64 (if 32 < nonce.length ∨ z < 0 then 1 else 2)]) ∧ Below w.heap.size w w' := by
  have HV := Bx.mk (And.intro hv (And.intro hn hnl2))
  have HK := Bx.mk hk
  have HL := Bx.mk (And.intro h1 (And.intro h2 hbad))
  have HA := Bx.mk hTab
  obtain ⟨p, rfl⟩ := hv.form
  clear hTab hv hn hk hnl2 hbad h1 h2
  obtain ⟨er, her⟩ : ∃ er : Int, (if 32 < nonce.length ∨ z < 0 then 1 else 2) = er := ⟨_, rfl⟩
  have HE := Bx.mk her
  rw [her]
  clear her
  go_enter Tryd.func23, Tryd.ntmps23
  go_wp2_with fail
  refine (derived_any key _ w HV.out.1 HK.out HA.out hg).mono ?_
  rintro e w1 ⟨vp, rfl, hp1, hb1⟩
  have H1 := Bx.mk (And.intro hp1 hb1)
  obtain ⟨q, rfl⟩ := hp1.form
  clear hp1 hb1
  go_wp2_with fail
  refine (stream_bad (hideK key) (bindK key) nonce z _ _ w1 H1.out.1 (HV.out.2.1.later H1.out.2) HV.out.2.2 HL.out.1 HL.out.2.1 HL.out.2.2).mono ?_
  rintro e w2 ⟨rfl, rfl⟩
  rw [HE.out]
  go_wp2
  go_ret2
  exact ⟨rfl, H1.out.2⟩
set_option maxRecDepth 100000 in
theorem four_own (n : Nat) (w : World) (hn : n ≤ 140737488355328) : Calls Tryd.prog 63 #[.int .i64 (n : Int)] w fun e w' => e = .returned (.slice (some ⟨w.heap.size, 0, none⟩) 4 4) ∧ Below w.heap.size w w' ∧ OwnB w' w.heap.size (.slice (some ⟨w.heap.size, 0, none⟩) 4 4) (lenB n) := by
  have h3 := (len_byte n 3).resolve_right (by omega)
  have h2 := (len_byte n 2).resolve_right (by omega)
  have h1 := (len_byte n 1).resolve_right (by omega)
  have h0 := (len_byte n 0).resolve_right (by omega)
  simp only [Nat.mul_zero, Int.pow_zero, Nat.reduceMul, Int.reducePow, Int.ediv_one] at h0 h1 h2 h3
  have hn1 : (n : Int) ≤ 140737488355328 := by omega
  go_enter Tryd.func63, Tryd.ntmps63
  go_wp2
  go_ret
  refine ⟨rfl, below_a _, ?_⟩
  exact row_own (l := lenB n) (by rw [hnew _ _ _ rfl]; rfl) rfl (Nat.le_refl _) (by omega)
/-- A number as eight bytes. -/
def eightB (n : Nat) : List UInt8 := lenB 0 ++ lenB n
set_option maxRecDepth 100000 in
set_option maxHeartbeats 400000 in
theorem eight_any (n : Nat) (w : World) (hn : n < 4294967296) : Calls Tryd.prog 49 #[.int .i64 (n : Int)] w fun e w' => ∃ v', e = .returned v' ∧ OwnB w' w.heap.size v' (eightB n) ∧ Below w.heap.size w w' := by
  have hn1 : (n : Int) < 4294967296 := by omega
  have hq : (n : Int) / 4294967296 = 0 := by omega
  have HN := Bx.mk hn
  clear hn
  go_enter Tryd.func49, Tryd.ntmps49
  go_wp2_with fail
  refine (four_own 0 w (by omega)).mono ?_
  rintro e w1 ⟨rfl, hb1, ho1⟩
  have H1 := Bx.mk (And.intro hb1 ho1)
  clear hb1 ho1
  go_wp2_with fail
  refine (four_own n w1 (by have := HN.out; omega)).mono ?_
  rintro e w2 ⟨rfl, hb2, ho2⟩
  have H2 : Bx (Below w.heap.size w w2 ∧ OwnB w2 w.heap.size (.slice (some ⟨w.heap.size, 0, none⟩) 4 4) (lenB 0) ∧ Bytes w2 (.slice (some ⟨w1.heap.size, 0, none⟩) 4 4) (lenB n)) := Bx.mk ⟨H1.out.1.trans (hb2.mono H1.out.1.size), H1.out.2.later hb2 (fun g hg => (H1.out.2.lt g hg).1), ho2.bytes⟩
  clear hb2 ho2 H1
  generalize w1.heap.size = D1 at *
  go_wp2_with (refine wpList_ap rfl _ _ rfl w.heap.size _ (lenB 0) (by rfl) H2.out.2.1 _ (lenB n) (by rfl) H2.out.2.2 (by show 4 + 4 ≤ _; omega) H2.out.1.size ?_; intro v3 w3 ho3 hg3 _; have H3 : Bx (OwnB w3 w.heap.size v3 (eightB n) ∧ Below w.heap.size w w3) := Bx.mk ⟨ho3, H2.out.1.trans (own_below H2.out.2.1 hg3 H2.out.1.size)⟩; clear ho3 hg3)
  go_ret
  exact ⟨_, rfl, H3.out⟩
/-- A sealer, at block p. -/
def IsSealer (w : World) (p : Nat) (hk bk : List UInt8) (c : Nat) : Prop :=
  ∃ q, w.heap[p]? = some (.cells #[.pointer (some ⟨q, 0, none⟩), .int .i64 (c : Int)] 85 (0, 0)) ∧ IsPair w (.pointer (some ⟨q, 0, none⟩)) hk bk
/-- A sealer's block holds neither bytes nor slices. -/
theorem Bytes.aside {w w1 : World} {v : Value} {bs : List UInt8} {p q : Nat} {c : Int} {t : TypeId} {fr : Nat × Nat} (h : Bytes w v bs) (hp : w.heap[p]? = some (.cells #[.pointer (some ⟨q, 0, none⟩), .int .i64 c] t fr)) (hk : w.grownBy w1 (some p)) : Bytes w1 v bs := by
  obtain ⟨a, cap, hv, hc, hn, hr⟩ := h
  refine ⟨a, cap, hv, hc, hn, fun h0 => ?_⟩
  obtain ⟨g, o, ha, hcell⟩ := hr h0
  refine ⟨g, o, ha, fun j hj => ?_⟩
  have hne : g ≠ p := by
    rintro rfl
    have h1 := hcell j hj
    rw [cell_of_row _ _ _ _ _ _ hp] at h1
    match hoj : o + j, h1 with
    | 0, h1 => simp at h1
    | 1, h1 => simp at h1
    | k + 2, h1 => simp at h1
  exact hk.cell (hcell j hj) (by simpa using hne)
theorem Parts.aside {w w1 : World} {v : Value} {pss : List (List UInt8)} {p q : Nat} {c : Int} {t : TypeId} {fr : Nat × Nat} (h : Parts w v pss) (hp : w.heap[p]? = some (.cells #[.pointer (some ⟨q, 0, none⟩), .int .i64 c] t fr)) (hk : w.grownBy w1 (some p)) : Parts w1 v pss := by
  obtain ⟨a, cap, hv, hr⟩ := h
  refine ⟨a, cap, hv, fun h0 => ?_⟩
  obtain ⟨g, o, ha, hcell⟩ := hr h0
  refine ⟨g, o, ha, fun j hj => ?_⟩
  obtain ⟨x, hx, hxb⟩ := hcell j hj
  refine ⟨x, ?_, hxb.aside hp hk⟩
  have hne : g ≠ p := by
    rintro rfl
    rw [cell_of_row _ _ _ _ _ _ hp] at hx
    obtain ⟨ax, cx, rfl, -⟩ := hxb
    match hoj : o + j, hx with
    | 0, h1 => simp at h1
    | 1, h1 => simp at h1
    | k + 2, h1 => simp at h1
  exact hk.cell hx (by simpa using hne)
theorem IsKey.aside {w w1 : World} {v : Value} {bs : List UInt8} {p q : Nat} {c : Int} {fr : Nat × Nat} (h : IsKey w v bs) (hp : w.heap[p]? = some (.cells #[.pointer (some ⟨q, 0, none⟩), .int .i64 c] 85 fr)) (hk : w.grownBy w1 (some p)) : IsKey w1 v bs := by
  obtain ⟨g, s, hv, hr, hb⟩ := h
  refine ⟨g, s, hv, ?_, hb.aside hp hk⟩
  rw [hk.block g (Array.getElem?_eq_some_iff.1 hr).1 (by
    intro e
    injection e with e
    subst e
    rw [hr] at hp
    injection hp with e1
    injection e1 with e2 e3 e4
    exact absurd e3 (by decide))]
  exact hr
theorem IsPair.aside {w w1 : World} {v : Value} {hk bk : List UInt8} {p q : Nat} {c : Int} {fr : Nat × Nat} (h : IsPair w v hk bk) (hp : w.heap[p]? = some (.cells #[.pointer (some ⟨q, 0, none⟩), .int .i64 c] 85 fr)) (hg : w.grownBy w1 (some p)) : IsPair w1 v hk bk := by
  obtain ⟨g, k1, k2, hv, hr, h1, h2⟩ := h
  refine ⟨g, k1, k2, hv, ?_, h1.aside hp hg, h2.aside hp hg⟩
  rw [hg.block g (Array.getElem?_eq_some_iff.1 hr).1 (by
    intro e
    injection e with e
    subst e
    rw [hr] at hp
    injection hp with e1
    injection e1 with e2 e3 e4
    exact absurd e3 (by decide))]
  exact hr
theorem Tab.aside {w w1 : World} {p q : Nat} {c : Int} {t : TypeId} {fr : Nat × Nat} (h : Tab w) (hp : w.heap[p]? = some (.cells #[.pointer (some ⟨q, 0, none⟩), .int .i64 c] t fr)) (hk : w.grownBy w1 (some p)) : Tab w1 := by
  intro i hi
  have hne : 0 ≠ p := by
    intro e
    subst e
    have h1 := h 0 (by omega)
    rw [cell_of_row _ _ _ _ _ _ hp] at h1
    simp at h1
  exact hk.cell (h i hi) (by simpa using hne)
theorem IsSealer.later {w w1 : World} {p : Nat} {hk bk : List UInt8} {c : Nat} (h : IsSealer w p hk bk c) (hb : Below w.heap.size w w1) : IsSealer w1 p hk bk c := by
  obtain ⟨q, hr, hp⟩ := h
  exact ⟨q, by rw [hb.block _ (Array.getElem?_eq_some_iff.1 hr).1]; exact hr, hp.later hb⟩
theorem IsSealer.lt {w : World} {p : Nat} {hk bk : List UInt8} {c : Nat} (h : IsSealer w p hk bk c) : p < w.heap.size := by
  obtain ⟨q, hr, hp⟩ := h
  exact (Array.getElem?_eq_some_iff.1 hr).1
set_option maxRecDepth 100000 in
set_option maxHeartbeats 400000 in
theorem snew_any (key : List UInt8) (v : Value) (w : World) (hv : IsKey w v key) (hl : key.length ≤ 1000000) (hTab : Tab w) (hg : 0 < w.heap.size) :
    Calls Tryd.prog 31 #[v] w fun e w' => ∃ p, e = .returned (.pointer (some ⟨p, 0, none⟩)) ∧ w.heap.size ≤ p ∧ IsSealer w' p (hideK key) (bindK key) 0 ∧ Below w.heap.size w w' := by
  have HV := Bx.mk hv
  have HL := Bx.mk hl
  have HA := Bx.mk hTab
  obtain ⟨p, rfl⟩ := hv.form
  clear hv hl hTab
  go_enter Tryd.func31, Tryd.ntmps31
  go_wp2_with fail
  refine (derived_any key _ w HV.out HL.out HA.out hg).mono ?_
  rintro e w1 ⟨vp, rfl, hp1, hb1⟩
  have H1 := Bx.mk (And.intro hp1 hb1)
  obtain ⟨q, rfl⟩ := hp1.form
  clear hp1 hb1
  go_wp2
  go_ret
  exact ⟨_, rfl, H1.out.2.size, ⟨q, by rw [hnew _ _ _ rfl]; rfl, H1.out.1.later (below_a _)⟩, H1.out.2.alloc H1.out.2.size _⟩
set_option maxRecDepth 100000 in
theorem snew_nil (w : World) : Calls Tryd.prog 31 #[.pointer none] w fun e w' => e = .returned (.pointer (some ⟨w.heap.size, 0, none⟩)) ∧ w'.heap[w.heap.size]? = some (.cells #[.pointer none, .int .i64 0] 85 (0, 0)) ∧ Below w.heap.size w w' := by
  go_enter Tryd.func31, Tryd.ntmps31
  go_wp2_with fail
  refine (derived_nil w).mono ?_
  rintro e w1 ⟨rfl, rfl⟩
  go_wp2
  go_ret
  exact ⟨rfl, by rw [hnew _ _ _ rfl], below_a _⟩
set_option maxRecDepth 100000 in
theorem count_any (hk bk : List UInt8) (c p : Nat) (w : World) (h : IsSealer w p hk bk c) : Calls Tryd.prog 33 #[.pointer (some ⟨p, 0, none⟩)] w fun e w' => e = .returned (.int .i64 (c : Int)) ∧ w' = w := by
  obtain ⟨q, hr, -⟩ := h
  have hc : w.cell? ⟨p, 1, none⟩ = some (.int .i64 (c : Int)) := by rw [cell_of_row _ _ _ _ _ _ hr]; rfl
  clear hr
  go_enter Tryd.func33, Tryd.ntmps33
  go_wp2
  go_ret
  exact ⟨rfl, rfl⟩
theorem count_nil (w : World) : Calls Tryd.prog 33 #[.pointer none] w fun e w' => e = .returned (.int .i64 0) ∧ w' = w := by
  go_enter Tryd.func33, Tryd.ntmps33
  go_wp2
  go_ret
  exact ⟨rfl, rfl⟩
theorem sseal_nil (vd vb : Value) (w : World) : Calls Tryd.prog 32 #[.pointer none, vd, vb] w fun e w' => e = .returned (.tuple #[.slice none 0 0, .slice none 0 0, .int .i64 11]) ∧ w' = w := by
  go_enter Tryd.func32, Tryd.ntmps32
  go_wp2
  go_ret3
  exact ⟨rfl, rfl⟩
set_option maxRecDepth 100000 in
set_option maxHeartbeats 400000 in
theorem sseal_none (p : Nat) (vd vb : Value) (w : World) (hr : w.heap[p]? = some (.cells #[.pointer none, .int .i64 0] 85 (0, 0))) : Calls Tryd.prog 32 #[.pointer (some ⟨p, 0, none⟩), vd, vb] w fun e w' => e = .returned (.tuple #[.slice none 0 0, .slice none 0 0, .int .i64 1]) ∧ Below w.heap.size w w' := by
  have HR := Bx.mk hr
  have hc : w.cell? ⟨p, 1, none⟩ = some (.int .i64 0) := by rw [cell_of_row _ _ _ _ _ _ hr]; rfl
  clear hr
  go_enter Tryd.func32, Tryd.ntmps32
  go_wp2_with fail
  refine (eight_any 0 w (by omega)).mono ?_
  rintro e w1 ⟨vn, rfl, ho1, hb1⟩
  have H1 := Bx.mk hb1
  obtain ⟨an, cn, rfl, -⟩ := ho1.bytes
  have hc0 : w1.cell? ⟨p, 0, none⟩ = some (.pointer none) := by rw [hb1.cell (p := ⟨p, 0, none⟩) (Array.getElem?_eq_some_iff.1 HR.out).1, cell_of_row _ _ _ _ _ _ HR.out]; rfl
  clear ho1 hb1 hc
  go_wp2_with fail
  refine (sealed_nil _ _ _ w1).mono ?_
  rintro e w2 ⟨rfl, rfl⟩
  go_wp2
  go_ret3
  exact ⟨rfl, H1.out⟩
/-- What a sealer hands back. -/
def SSealQ (hk bk bound b : List UInt8) (c p : Nat) (w : World) (e : Ending) (w' : World) : Prop :=
  ∃ v1 v2, e = .returned (.tuple #[v1, v2, .int .i64 0]) ∧ Bytes w' v1 (eightB c) ∧ Bytes w' v2 (trnd hk (eightB c) b ++ tagB bk (eightB c) bound (trnd hk (eightB c) b)) ∧ IsSealer w' p hk bk (c + 1) ∧ w.grownBy w' (some p)
theorem kb_set1 (w : World) (g o : Nat) (v : Value) : w.grownBy (w.setCell ⟨g, o, none⟩ v) (some g) := ⟨rfl, rfl, rfl, by simp, fun i _ hne => heap_setCell_other _ _ _ _ (fun e => hne (by rw [e]))⟩
set_option maxRecDepth 100000 in
set_option maxHeartbeats 400000 in
theorem sseal_ok (hk bk bound b : List UInt8) (c p : Nat) (vd vb : Value) (w : World) (hs : IsSealer w p hk bk c) (hc : c < 1000000) (hd : Bytes w vd bound) (hb : Bytes w vb b) (hdl : bound.length ≤ 100000) (hbl : b.length ≤ 65536) (hkl : hk.length ≤ 1000000) (hkl2 : bk.length ≤ 1000000) (hTab : Tab w) (hg : 0 < w.heap.size) :
    Calls Tryd.prog 32 #[.pointer (some ⟨p, 0, none⟩), vd, vb] w (SSealQ hk bk bound b c p w) := by
  have HV := Bx.mk (And.intro hs (And.intro hd hb))
  have HL := Bx.mk (And.intro hc (And.intro hdl (And.intro hbl (And.intro hkl hkl2))))
  have HA := Bx.mk hTab
  obtain ⟨q, hr, hp⟩ := hs
  have HR := Bx.mk (And.intro hr hp)
  have hcell : w.cell? ⟨p, 1, none⟩ = some (.int .i64 (c : Int)) := by rw [cell_of_row _ _ _ _ _ _ hr]; rfl
  have hc1 : (c : Int) < 1000000 := by omega
  clear hr hp hd hb hdl hbl hkl hkl2 hTab hc
  go_enter Tryd.func32, Tryd.ntmps32
  go_wp2_with fail
  refine (eight_any c w (by have := HL.out; omega)).mono ?_
  rintro e w1 ⟨vn, rfl, ho1, hb1⟩
  have H1 := Bx.mk (And.intro ho1 hb1)
  obtain ⟨an, cn, rfl, -⟩ := ho1.bytes
  have hc0 : w1.cell? ⟨p, 0, none⟩ = some (.pointer (some ⟨q, 0, none⟩)) := by rw [hb1.cell (p := ⟨p, 0, none⟩) (Array.getElem?_eq_some_iff.1 HR.out.1).1, cell_of_row _ _ _ _ _ _ HR.out.1]; rfl
  have hel : (eightB c).length = 8 := rfl
  rw [hel] at H1 ⊢
  clear ho1 hb1 hcell hel
  go_wp2_with fail
  refine (sealed_ok hk bk (eightB c) bound b _ _ _ _ w1 (HR.out.2.later H1.out.2) H1.out.1.bytes (HV.out.2.1.later H1.out.2) (HV.out.2.2.later H1.out.2) (by show 8 ≤ 32; omega) HL.out.2.1 HL.out.2.2.1 HL.out.2.2.2.1 HL.out.2.2.2.2 (HA.out.later H1.out.2 hg) (Nat.lt_of_lt_of_le hg H1.out.2.size)).mono ?_
  rintro e w2 ⟨vs, rfl, ho2, hb2⟩
  have hlt := (Array.getElem?_eq_some_iff.1 HR.out.1).1
  have H2 : Bx (Bytes w2 (.slice an 8 cn) (eightB c) ∧ Bytes w2 vs (trnd hk (eightB c) b ++ tagB bk (eightB c) bound (trnd hk (eightB c) b)) ∧ Below w.heap.size w w2 ∧ w2.heap[p]? = some (.cells #[.pointer (some ⟨q, 0, none⟩), .int .i64 (c : Int)] 85 (0, 0)) ∧ IsPair w2 (.pointer (some ⟨q, 0, none⟩)) hk bk) := Bx.mk (by
    have hb3 := H1.out.2.trans (hb2.mono H1.out.2.size)
    exact ⟨H1.out.1.bytes.later hb2, ho2.bytes, hb3, by rw [hb3.block _ hlt]; exact HR.out.1, (HR.out.2.later H1.out.2).later hb2⟩)
  clear ho2 hb2 H1 hc0 hlt
  have hcell2 : w2.cell? ⟨p, 1, none⟩ = some (.int .i64 (c : Int)) := by rw [cell_of_row _ _ _ _ _ _ H2.out.2.2.2.1]; rfl
  have fz : w2.frozen? ⟨p, 1, none⟩ = false := frozen_of_row _ _ _ _ _ H2.out.2.2.2.1
  have H3 : Bx (Bytes (w2.setCell ⟨p, 1, none⟩ (.int .i64 ((c : Int) + 1))) (.slice an 8 cn) (eightB c) ∧ Bytes (w2.setCell ⟨p, 1, none⟩ (.int .i64 ((c : Int) + 1))) vs (trnd hk (eightB c) b ++ tagB bk (eightB c) bound (trnd hk (eightB c) b)) ∧ IsSealer (w2.setCell ⟨p, 1, none⟩ (.int .i64 ((c : Int) + 1))) p hk bk (c + 1) ∧ w.grownBy (w2.setCell ⟨p, 1, none⟩ (.int .i64 ((c : Int) + 1))) (some p)) := Bx.mk (by
    have hk := kb_set1 w2 p 1 (.int .i64 ((c : Int) + 1))
    exact ⟨H2.out.1.aside H2.out.2.2.2.1 hk, H2.out.2.1.aside H2.out.2.2.2.1 hk, ⟨q, by rw [heap_setCell_same _ _ _ _ _ _ H2.out.2.2.2.1]; rfl, H2.out.2.2.2.2.aside H2.out.2.2.2.1 hk⟩, kb_trans (kb_below (some p) H2.out.2.2.1) hk⟩)
  clear H2
  go_wp2
  generalize w2.setCell ⟨p, 1, none⟩ (.int .i64 ((c : Int) + 1)) = w3 at *
  go_ret3
  exact ⟨_, _, rfl, H3.out⟩
end Go.Proofs.YtcaehkglfliihaaDoor
