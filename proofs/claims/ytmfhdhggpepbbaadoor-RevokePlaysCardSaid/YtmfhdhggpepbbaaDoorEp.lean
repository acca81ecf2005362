/-
  Revocations: what the statements say with: few, Same, To.
-/
import Derived.Test.YtmfhdhggpepbbaaDoorEo
namespace Go.Proofs.YtmfhdhggpepbbaaDoor
open Go Go.RowKit
set_option maxRecDepth 100000 in
set_option maxHeartbeats 1000000 in
/-- The document's Same. -/
theorem rsame8 (l1 l2 : List Int) (v1 v2 : Value) (w : World) (h1 : IsL w v1 l1) (h2 : IsL w v2 l2) (hl1 : l1.length ≤ 1000000) (hl2 : l2.length ≤ 1000000) :
    Calls Tryd.prog 23 #[v1, v2] w fun e w' => e = .returned (.bool (decide (l1 = l2))) ∧ Below w.heap.size w w' := by
  obtain ⟨z, hz⟩ : ∃ z, decide (l1 = l2) = z := ⟨_, rfl⟩
  rw [hz]
  obtain ⟨a, ca, hv1⟩ := h1.form
  obtain ⟨b, cb, hv2⟩ := h2.form
  subst hv1 hv2
  have H1 : Bx (∀ W, Below w.heap.size w W → Ints W (.slice a l1.length ca) l1) := ⟨fun W h => (h1.later h).ints⟩
  have H2 : Bx (∀ W, Below w.heap.size w W → Ints W (.slice b l2.length cb) l2) := ⟨fun W h => (h2.later h).ints⟩
  have HE : Bx (l1.length = l2.length → (∀ i, i < l1.length → l1.getD i 0 = l2.getD i 0) → z = true) := ⟨fun h h' => by rw [← hz]; exact decide_eq_true (ext_getI h h')⟩
  have HN : Bx (l1.length ≠ l2.length → z = false) := ⟨fun h => by rw [← hz]; exact decide_eq_false (fun e => h (by rw [e]))⟩
  have HM : Bx (∀ k : Nat, l1.getD k 0 ≠ l2.getD k 0 → z = false) := ⟨fun k h => by rw [← hz]; exact decide_eq_false (fun e => h (by rw [e]))⟩
  clear hz
  obtain ⟨n, hn⟩ : ∃ n, l1.length = n := ⟨_, rfl⟩
  obtain ⟨m, hm⟩ : ∃ m, l2.length = m := ⟨_, rfl⟩
  have HL1 := Bx.mk hn
  have HL2 := Bx.mk hm
  rw [hn] at hl1 H1 HE HN ⊢
  rw [hm] at hl2 H2 HE HN ⊢
  clear h1 h2 hn hm
  by_cases hnm : n = m
  · subst hnm
    have HE2 : Bx ((∀ i, i < n → l1.getD i 0 = l2.getD i 0) → z = true) := ⟨HE.out rfl⟩
    clear HE
    have hn1 : (n : Int) ≤ 1000000 := by omega
    have B0 := Bx.mk (Below.refl w.heap.size w)
    go_enter Tryd.func23, Tryd.ntmps23
    go_wp2
    go_loopw [5] (fun i wr => ∃ k : Nat, k ≤ n ∧ i = .int .i64 (k : Int) ∧ Bx (∀ j, j < k → l1.getD j 0 = l2.getD j 0) ∧ Bx (Below w.heap.size w wr)) (fun i _ => n - (intOf i).toNat)
    case atStart => exact ⟨0, Nat.zero_le _, rfl, ⟨fun j hj => absurd hj (Nat.not_lt_zero _)⟩, B0⟩
    case round =>
      obtain ⟨k, hk, rfl, HA, HB⟩ := hrel
      clear B0
      by_cases hlt : k < n
      · have hk1 : (k : Int) < (n : Int) := by omega
        have hk0 : (0 : Int) ≤ (k : Int) := by omega
        obtain ⟨_, _, hv, _, _, hr⟩ := H1.out _ HB.out
        injection hv with e1 e2 e3
        subst e1
        clear e2 e3
        obtain ⟨c, o, rfl, hf⟩ := hr (by rw [HL1.out]; omega)
        have hc := hf k (by rw [HL1.out]; exact hlt)
        obtain ⟨_, _, hv, _, _, hr⟩ := H2.out _ HB.out
        injection hv with e1 e2 e3
        subst e1
        clear e2 e3
        obtain ⟨c2, o2, rfl, hf2⟩ := hr (by rw [HL2.out]; omega)
        have hc2 := hf2 k (by rw [HL2.out]; exact hlt)
        obtain ⟨x, hx⟩ : ∃ x, l1.getD k 0 = x := ⟨_, rfl⟩
        obtain ⟨y, hy⟩ : ∃ y, l2.getD k 0 = y := ⟨_, rfl⟩
        have HX := Bx.mk hx
        have HY := Bx.mk hy
        rw [hx] at hc
        rw [hy] at hc2
        clear hf hf2 hr hx hy
        by_cases hxy : x = y
        · subst hxy
          go_wp2
          go_quiet (fail)
          go_wp2
          go_roundw
          case rel => exact ⟨k + 1, by omega, by go_num, ⟨fun j hj => by
            by_cases e : j = k
            · subst e; rw [HX.out, HY.out]
            · exact HA.out j (by omega)⟩, ⟨drewN_below HB.out _⟩⟩
          case measure => simp [intOf]; omega
        · have HZ := Bx.mk (HM.out k (by rw [HX.out, HY.out]; exact hxy))
          clear HM HN HE2
          go_wp2
          go_quiet (fail)
          go_wp2
          go_ret
          exact ⟨by rw [HZ.out]; rfl, drewN_below HB.out _⟩
      · obtain rfl : k = n := by omega
        go_wp2
        go_ret
        exact ⟨by rw [HE2.out HA.out]; rfl, HB.out⟩
  · have hnm' : (n : Int) ≠ (m : Int) := by omega
    go_enter Tryd.func23, Tryd.ntmps23
    go_wp2
    go_ret
    exact ⟨by rw [HN.out hnm]; rfl, Below.refl _ _⟩
theorem ownI_empty (W : World) (base : Nat) (hb : base ≤ W.heap.size) : OwnI (W.alloc (.cells #[] 3)) base (.slice (some ⟨W.heap.size, 0, none⟩) 0 0) [] :=
  ⟨rfl, .inr ⟨W.heap.size, 0, #[], rfl, hb, hnew _ _ _ rfl, Nat.le_refl _, by simp [maxLen], by simp, by simp [i64s]⟩⟩
theorem Ints.take8 {w : World} {a : Option Addr} {n cap : Nat} {ns : List Int} (h : Ints w (.slice a n cap) ns) (m : Nat) (hm : m ≤ n) : Ints w (.slice a m cap) (ns.take m) := by
  obtain ⟨a', cap', hv, hc, hn, hr⟩ := h
  injection hv with e1 e2 e3
  subst e1 e2 e3
  refine ⟨_, _, by rw [List.length_take, Nat.min_eq_left hm], by rw [List.length_take]; omega, hn, fun hp => ?_⟩
  rw [List.length_take] at hp
  obtain ⟨c, o, ha, hf⟩ := hr (by omega)
  refine ⟨c, o, ha, fun i hi => ?_⟩
  rw [List.length_take] at hi
  rw [hf i (by omega)]
  simp [List.getD_eq_getElem?_getD, show i < m by omega]
set_option maxRecDepth 100000 in
set_option maxHeartbeats 1000000 in
theorem few8 (ns : List Int) (v : Value) (n : Nat) (w : World) (hv : Ints w v ns) (hl : ns.length ≤ 9223372036854775807) (hn : n ≤ 1000) :
    Calls Tryd.prog 11 #[v, .int .i64 (n : Int)] w fun e w' => ∃ u, e = .returned u ∧ IsL w' u (ns.take n) ∧ Below w.heap.size w w' := by
  obtain ⟨a, cap, rfl, hc, -⟩ := id hv
  obtain ⟨k, hk⟩ : ∃ k, min ns.length n = k := ⟨_, rfl⟩
  have hmin : min (ns.length : Int) (n : Int) = (k : Int) := by omega
  have hk1 : (k : Int) ≤ (ns.length : Int) := by omega
  have hk2 : (k : Int) ≤ 1000 := by omega
  have hcut := fun W => cut_h a ns.length cap k (by omega) W
  have HT : Bx (ns.take k = ns.take n) := ⟨by
    rw [← hk]
    by_cases h : n ≤ ns.length
    · rw [Nat.min_eq_right h]
    · rw [Nat.min_eq_left (by omega), List.take_of_length_le (Nat.le_refl _), List.take_of_length_le (by omega)]⟩
  have HI : Bx (Ints (w.alloc (.cells #[] 3)) (.slice a k cap) (ns.take k)) := ⟨(hv.take8 k (by omega)).later (below_a _)⟩
  have HO := Bx.mk (ownI_empty w w.heap.size (Nat.le_refl _))
  have HL : Bx ((ns.take k).length ≤ 1000) := ⟨by rw [List.length_take]; omega⟩
  have hl1 : (ns.length : Int) ≤ 9223372036854775807 := by omega
  clear hv hc hn hl hk
  go_enter Tryd.func11, Tryd.ntmps11
  go_wp2_with (refine wpList_apI rfl _ _ rfl w.heap.size _ [] (by rfl) HO.out _ (ns.take k) (by rfl) HI.out (by have := HL.out; simp; omega) (by simp) ?_; intro v' w' ho hg; have HOw := Bx.mk ho; have HGw := Bx.mk hg; clear ho hg)
  rw [List.nil_append] at HOw
  have HOut := Bx.mk HOw.out.isL
  obtain ⟨a7, c7, hv7⟩ := HOut.out.form
  rw [HT.out] at HOut
  have HB : Bx (Below w.heap.size w w') := ⟨(below_a _).trans (grown_below HGw.out (Nat.le_refl _) (by simp))⟩
  clear HOw HGw HI HO HL
  subst hv7
  go_wp2
  go_ret
  exact ⟨_, rfl, HOut.out, HB.out⟩
/-- Rows that came in. -/
structure RowsI (W : World) (x : VV) (l : L4) : Prop where
  a : Ints W x.a l.a
  b : Ints W x.b l.b
  c : Ints W x.c l.c
  d : Ints W x.d l.d
theorem RowsI.later {W W1 : World} {x : VV} {l : L4} (h : RowsI W x l) (hb : Below W.heap.size W W1) : RowsI W1 x l := ⟨h.a.later hb, h.b.later hb, h.c.later hb, h.d.later hb⟩
def L4.take (l : L4) (n : Nat) : L4 := ⟨l.a.take n, l.b.take n, l.c.take n, l.d.take n⟩
theorem Most.take (l : L4) (n : Nat) : Most (l.take n) n := ⟨by simp [L4.take]; omega, by simp [L4.take]; omega, by simp [L4.take]; omega, by simp [L4.take]; omega⟩
theorem build_from2 (a b c d : Int) (W : World) : (Instr.build 41 #[(0, .agg #[.int .i64 a, .int .i64 b, .int .i64 c, .int .i64 d])]).run Tryd.prog W = .ok (.agg #[.int .i64 a, .int .i64 b, .int .i64 c, .int .i64 d, .slice none 0 0, .slice none 0 0, .slice none 0 0, .slice none 0 0]) W := by kernel_rfl
set_option maxRecDepth 100000 in
set_option maxHeartbeats 2000000 in
/-- A delta of the document, there. -/
theorem to8 (v : V4) (x : VV) (m : L4) (w : World) (hx : RowsI w x m) (hm : Most m 9223372036854775807) : Calls Tryd.prog 14 #[.agg (dC v x)] w fun e w' => ∃ u : VV, e = .returned (.agg (dC v u)) ∧ Rows4 w' u (m.take 40) ∧ Below w.heap.size w w' := by
  obtain ⟨E, hE⟩ : ∃ E, w.heap.size = E := ⟨_, rfl⟩
  have HX : Bx (∀ W, Below w.heap.size w W → RowsI W x m) := ⟨fun W h => hx.later h⟩
  have HM := Bx.mk hm
  obtain ⟨x1, x2, x3, x4⟩ := x
  obtain ⟨p2, a2, e1, -⟩ := hx.a
  obtain ⟨q2, b2, e2, -⟩ := hx.b
  obtain ⟨t2, c2, e3, -⟩ := hx.c
  obtain ⟨s2, d2, e4, -⟩ := hx.d
  simp only at e1 e2 e3 e4
  subst e1 e2 e3 e4
  unfold dC L4.take
  simp only
  have K0 : Bx (KR w E [(E + 1, (.cells #[.int .i64 0, .int .i64 0, .int .i64 0, .int .i64 0, .slice none 0 0, .slice none 0 0, .slice none 0 0, .slice none 0 0] 41)), (E, (.cells #[.int .i64 v.a, .int .i64 v.b, .int .i64 v.c, .int .i64 v.d, .slice p2 m.a.length a2, .slice q2 m.b.length b2, .slice t2 m.c.length c2, .slice s2 m.d.length d2] 33))] ((w.alloc (.cells #[.int .i64 v.a, .int .i64 v.b, .int .i64 v.c, .int .i64 v.d, .slice p2 m.a.length a2, .slice q2 m.b.length b2, .slice t2 m.c.length c2, .slice s2 m.d.length d2] 33)).alloc (.cells #[.int .i64 0, .int .i64 0, .int .i64 0, .int .i64 0, .slice none 0 0, .slice none 0 0, .slice none 0 0, .slice none 0 0] 41))) := Bx.mk (by
    subst hE
    have h := ((KR.start w).new (.cells #[.int .i64 v.a, .int .i64 v.b, .int .i64 v.c, .int .i64 v.d, .slice p2 m.a.length a2, .slice q2 m.b.length b2, .slice t2 m.c.length c2, .slice s2 m.d.length d2] 33)).new (.cells #[.int .i64 0, .int .i64 0, .int .i64 0, .int .i64 0, .slice none 0 0, .slice none 0 0, .slice none 0 0, .slice none 0 0] 41)
    simpa using h)
  have hbf := build_from2 v.a v.b v.c v.d
  have hc : ∀ i u, (#[.int .i64 v.a, .int .i64 v.b, .int .i64 v.c, .int .i64 v.d, .slice p2 m.a.length a2, .slice q2 m.b.length b2, .slice t2 m.c.length c2, .slice s2 m.d.length d2] : Array Value)[i]? = some u → ((w.alloc (.cells #[.int .i64 v.a, .int .i64 v.b, .int .i64 v.c, .int .i64 v.d, .slice p2 m.a.length a2, .slice q2 m.b.length b2, .slice t2 m.c.length c2, .slice s2 m.d.length d2] 33)).alloc (.cells #[.int .i64 0, .int .i64 0, .int .i64 0, .int .i64 0, .slice none 0 0, .slice none 0 0, .slice none 0 0, .slice none 0 0] 41)).cell? ⟨E, i, none⟩ = some u := fun i u h => by
    rw [cell_of_row _ _ _ _ _ _ (K0.out.rows _ (.tail _ (.head _)))]
    exact h
  have k0 := hc 0 _ rfl
  have k1 := hc 1 _ rfl
  have k2 := hc 2 _ rfl
  have k3 := hc 3 _ rfl
  obtain ⟨D, hD⟩ : ∃ D, ((w.alloc (.cells #[.int .i64 v.a, .int .i64 v.b, .int .i64 v.c, .int .i64 v.d, .slice p2 m.a.length a2, .slice q2 m.b.length b2, .slice t2 m.c.length c2, .slice s2 m.d.length d2] 33)).alloc (.cells #[.int .i64 0, .int .i64 0, .int .i64 0, .int .i64 0, .slice none 0 0, .slice none 0 0, .slice none 0 0, .slice none 0 0] 41)).heap.size = D := ⟨_, rfl⟩
  have HD : Bx (E + 1 < D) := ⟨by rw [← hD]; exact K0.out.lt (.head _)⟩
  have K1 : Bx (KR w E [(D, (.cells #[.int .i64 v.a, .int .i64 v.b, .int .i64 v.c, .int .i64 v.d, .slice none 0 0, .slice none 0 0, .slice none 0 0, .slice none 0 0] 41)), (E + 1, (.cells #[.int .i64 0, .int .i64 0, .int .i64 0, .int .i64 0, .slice none 0 0, .slice none 0 0, .slice none 0 0, .slice none 0 0] 41)), (E, (.cells #[.int .i64 v.a, .int .i64 v.b, .int .i64 v.c, .int .i64 v.d, .slice p2 m.a.length a2, .slice q2 m.b.length b2, .slice t2 m.c.length c2, .slice s2 m.d.length d2] 33))] (((w.alloc (.cells #[.int .i64 v.a, .int .i64 v.b, .int .i64 v.c, .int .i64 v.d, .slice p2 m.a.length a2, .slice q2 m.b.length b2, .slice t2 m.c.length c2, .slice s2 m.d.length d2] 33)).alloc (.cells #[.int .i64 0, .int .i64 0, .int .i64 0, .int .i64 0, .slice none 0 0, .slice none 0 0, .slice none 0 0, .slice none 0 0] 41)).alloc (.cells #[.int .i64 v.a, .int .i64 v.b, .int .i64 v.c, .int .i64 v.d, .slice none 0 0, .slice none 0 0, .slice none 0 0, .slice none 0 0] 41))) := Bx.mk (by
    have h := K0.out.new (.cells #[.int .i64 v.a, .int .i64 v.b, .int .i64 v.c, .int .i64 v.d, .slice none 0 0, .slice none 0 0, .slice none 0 0, .slice none 0 0] 41)
    rw [hD] at h
    exact h)
  clear K0 hc
  obtain ⟨r0, hr0⟩ : ∃ r, m.a.take 40 = r := ⟨_, rfl⟩
  obtain ⟨r1, hr1⟩ : ∃ r, m.b.take 40 = r := ⟨_, rfl⟩
  obtain ⟨r2, hr2⟩ : ∃ r, m.c.take 40 = r := ⟨_, rfl⟩
  obtain ⟨r3, hr3⟩ : ∃ r, m.d.take 40 = r := ⟨_, rfl⟩
  have HR := Bx.mk (And.intro hr0 (And.intro hr1 (And.intro hr2 hr3)))
  rw [hr0, hr1, hr2, hr3]
  clear hr0 hr1 hr2 hr3 hx hm
  rw [hE] at HX ⊢
  go_enter Tryd.func14, Tryd.ntmps14
  go_wp2
  generalize (((w.alloc (.cells #[.int .i64 v.a, .int .i64 v.b, .int .i64 v.c, .int .i64 v.d, .slice p2 m.a.length a2, .slice q2 m.b.length b2, .slice t2 m.c.length c2, .slice s2 m.d.length d2] 33)).alloc (.cells #[.int .i64 0, .int .i64 0, .int .i64 0, .int .i64 0, .slice none 0 0, .slice none 0 0, .slice none 0 0, .slice none 0 0] 41)).alloc (.cells #[.int .i64 v.a, .int .i64 v.b, .int .i64 v.c, .int .i64 v.d, .slice none 0 0, .slice none 0 0, .slice none 0 0, .slice none 0 0] 41)) = y0 at *
  clear k0 k1 k2 k3 hD hbf
  refine wp_loop_rounds 5 ?_
  rw [rounds_succ]
  have kE : y0.cell? ⟨E, 4, none⟩ = some (.slice p2 m.a.length a2) := by rw [cell_of_row _ _ _ _ _ _ (K1.out.rows _ (.tail _ (.tail _ (.head _))))]; rfl
  go_wp2_with fail
  refine (few8 m.a _ 40 y0 (HX.out y0 K1.out.below).a HM.out.a (by omega)).mono ?_
  rintro e y1 ⟨v0, rfl, hu, hb⟩
  rw [HR.out.1] at hu
  obtain ⟨u0, g0, hv0⟩ := hu.form
  subst hv0
  have U0a := Bx.mk hu
  have K1a := Bx.mk (K1.out.later hb)
  clear hu hb kE K1
  go_wp2_with (refine wpList_cellS rfl _ _ rfl D 4 u0 r0.length g0 #[.int .i64 v.a, .int .i64 v.b, .int .i64 v.c, .int .i64 v.d, .slice none 0 0, .slice none 0 0, .slice none 0 0, .slice none 0 0] #[.int .i64 v.a, .int .i64 v.b, .int .i64 v.c, .int .i64 v.d, .slice u0 r0.length g0, .slice none 0 0, .slice none 0 0, .slice none 0 0] 41 (by rfl) (by rfl) (K1a.out.rows _ (.head _)) (by simp) rfl ?_; intro y2 hg hr; have K2 := Bx.mk (K1a.out.set hg hr (by have := HD.out; omega) (by have := HD.out; intro z hz; simp at hz; rcases hz with rfl | rfl <;> simp <;> omega)); have U0 := Bx.mk (U0a.out.grown hg (K1a.out.rows _ (.head _)) del_int); clear hg hr K1a U0a)
  rw [rounds_succ]
  have kE : y2.cell? ⟨E, 5, none⟩ = some (.slice q2 m.b.length b2) := by rw [cell_of_row _ _ _ _ _ _ (K2.out.rows _ (.tail _ (.tail _ (.head _))))]; rfl
  go_wp2_with fail
  refine (few8 m.b _ 40 y2 (HX.out y2 K2.out.below).b HM.out.b (by omega)).mono ?_
  rintro e y3 ⟨v1, rfl, hu, hb⟩
  rw [HR.out.2.1] at hu
  obtain ⟨u1, g1, hv1⟩ := hu.form
  subst hv1
  have U1a := Bx.mk hu
  have K2a := Bx.mk (K2.out.later hb)
  have U0b := Bx.mk (U0.out.later hb)
  clear U0
  clear hu hb kE K2
  go_wp2_with (refine wpList_cellS rfl _ _ rfl D 5 u1 r1.length g1 #[.int .i64 v.a, .int .i64 v.b, .int .i64 v.c, .int .i64 v.d, .slice u0 r0.length g0, .slice none 0 0, .slice none 0 0, .slice none 0 0] #[.int .i64 v.a, .int .i64 v.b, .int .i64 v.c, .int .i64 v.d, .slice u0 r0.length g0, .slice u1 r1.length g1, .slice none 0 0, .slice none 0 0] 41 (by rfl) (by rfl) (K2a.out.rows _ (.head _)) (by simp) rfl ?_; intro y4 hg hr; have K3 := Bx.mk (K2a.out.set hg hr (by have := HD.out; omega) (by have := HD.out; intro z hz; simp at hz; rcases hz with rfl | rfl <;> simp <;> omega)); have U1 := Bx.mk (U1a.out.grown hg (K2a.out.rows _ (.head _)) del_int); have U0 := Bx.mk (U0b.out.grown hg (K2a.out.rows _ (.head _)) del_int); clear U0b; clear hg hr K2a U1a)
  rw [rounds_succ]
  have kE : y4.cell? ⟨E, 6, none⟩ = some (.slice t2 m.c.length c2) := by rw [cell_of_row _ _ _ _ _ _ (K3.out.rows _ (.tail _ (.tail _ (.head _))))]; rfl
  go_wp2_with fail
  refine (few8 m.c _ 40 y4 (HX.out y4 K3.out.below).c HM.out.c (by omega)).mono ?_
  rintro e y5 ⟨v2, rfl, hu, hb⟩
  rw [HR.out.2.2.1] at hu
  obtain ⟨u2, g2, hv2⟩ := hu.form
  subst hv2
  have U2a := Bx.mk hu
  have K3a := Bx.mk (K3.out.later hb)
  have U0b := Bx.mk (U0.out.later hb)
  clear U0
  have U1b := Bx.mk (U1.out.later hb)
  clear U1
  clear hu hb kE K3
  go_wp2_with (refine wpList_cellS rfl _ _ rfl D 6 u2 r2.length g2 #[.int .i64 v.a, .int .i64 v.b, .int .i64 v.c, .int .i64 v.d, .slice u0 r0.length g0, .slice u1 r1.length g1, .slice none 0 0, .slice none 0 0] #[.int .i64 v.a, .int .i64 v.b, .int .i64 v.c, .int .i64 v.d, .slice u0 r0.length g0, .slice u1 r1.length g1, .slice u2 r2.length g2, .slice none 0 0] 41 (by rfl) (by rfl) (K3a.out.rows _ (.head _)) (by simp) rfl ?_; intro y6 hg hr; have K4 := Bx.mk (K3a.out.set hg hr (by have := HD.out; omega) (by have := HD.out; intro z hz; simp at hz; rcases hz with rfl | rfl <;> simp <;> omega)); have U2 := Bx.mk (U2a.out.grown hg (K3a.out.rows _ (.head _)) del_int); have U0 := Bx.mk (U0b.out.grown hg (K3a.out.rows _ (.head _)) del_int); clear U0b; have U1 := Bx.mk (U1b.out.grown hg (K3a.out.rows _ (.head _)) del_int); clear U1b; clear hg hr K3a U2a)
  rw [rounds_succ]
  have kE : y6.cell? ⟨E, 7, none⟩ = some (.slice s2 m.d.length d2) := by rw [cell_of_row _ _ _ _ _ _ (K4.out.rows _ (.tail _ (.tail _ (.head _))))]; rfl
  go_wp2_with fail
  refine (few8 m.d _ 40 y6 (HX.out y6 K4.out.below).d HM.out.d (by omega)).mono ?_
  rintro e y7 ⟨v3, rfl, hu, hb⟩
  rw [HR.out.2.2.2] at hu
  obtain ⟨u3, g3, hv3⟩ := hu.form
  subst hv3
  have U3a := Bx.mk hu
  have K4a := Bx.mk (K4.out.later hb)
  have U0b := Bx.mk (U0.out.later hb)
  clear U0
  have U1b := Bx.mk (U1.out.later hb)
  clear U1
  have U2b := Bx.mk (U2.out.later hb)
  clear U2
  clear hu hb kE K4
  go_wp2_with (refine wpList_cellS rfl _ _ rfl D 7 u3 r3.length g3 #[.int .i64 v.a, .int .i64 v.b, .int .i64 v.c, .int .i64 v.d, .slice u0 r0.length g0, .slice u1 r1.length g1, .slice u2 r2.length g2, .slice none 0 0] #[.int .i64 v.a, .int .i64 v.b, .int .i64 v.c, .int .i64 v.d, .slice u0 r0.length g0, .slice u1 r1.length g1, .slice u2 r2.length g2, .slice u3 r3.length g3] 41 (by rfl) (by rfl) (K4a.out.rows _ (.head _)) (by simp) rfl ?_; intro y8 hg hr; have K5 := Bx.mk (K4a.out.set hg hr (by have := HD.out; omega) (by have := HD.out; intro z hz; simp at hz; rcases hz with rfl | rfl <;> simp <;> omega)); have U3 := Bx.mk (U3a.out.grown hg (K4a.out.rows _ (.head _)) del_int); have U0 := Bx.mk (U0b.out.grown hg (K4a.out.rows _ (.head _)) del_int); clear U0b; have U1 := Bx.mk (U1b.out.grown hg (K4a.out.rows _ (.head _)) del_int); clear U1b; have U2 := Bx.mk (U2b.out.grown hg (K4a.out.rows _ (.head _)) del_int); clear U2b; clear hg hr K4a U3a)
  rw [rounds_succ]
  go_wp2_with (first | (refine wpList_load_row rfl 41 _ rfl D (by rfl) _ #[.int .i64 v.a, .int .i64 v.b, .int .i64 v.c, .int .i64 v.d, .slice u0 r0.length g0, .slice u1 r1.length g1, .slice u2 r2.length g2, .slice u3 r3.length g3] (0, 0) _ (K5.out.rows _ (.head _)) Tryd.underlying41 rfl (by kernel_rfl) ?_) | (refine wpList_store_new rfl 41 _ _ rfl (E + 1) #[.int .i64 v.a, .int .i64 v.b, .int .i64 v.c, .int .i64 v.d, .slice u0 r0.length g0, .slice u1 r1.length g1, .slice u2 r2.length g2, .slice u3 r3.length g3] _ _ (by rfl) (by rfl) (K5.out.rows _ (.tail _ (.head _))) rfl (by kernel_rfl) (by simp [Value.oneCell']) ?_; intro w9 hw9 hr9; have HR9 := Bx.mk hr9; have HG9 := Bx.mk hw9; clear hw9 hr9))
  refine bodyPost_ret (results_cell_row rfl _ _ (E + 1) _ _ _ _ rfl HR9.out Tryd.underlying41 rfl (by kernel_rfl)) rfl ?_
  have hg9 : y8.grownBy w9 (some (E + 1)) := by rw [HG9.out]; exact kb_setCells _ _ _
  have hE9 := K5.out.rows _ (.tail _ (.head _))
  refine ⟨⟨.slice u0 r0.length g0, .slice u1 r1.length g1, .slice u2 r2.length g2, .slice u3 r3.length g3⟩, rfl, ⟨U0.out.grown hg9 hE9 del_int, U1.out.grown hg9 hE9 del_int, U2.out.grown hg9 hE9 del_int, U3.out.grown hg9 hE9 del_int⟩, by rw [HG9.out]; exact below_setCells (by omega) _ _ _ _ K5.out.below⟩
end Go.Proofs.YtmfhdhggpepbbaaDoor
