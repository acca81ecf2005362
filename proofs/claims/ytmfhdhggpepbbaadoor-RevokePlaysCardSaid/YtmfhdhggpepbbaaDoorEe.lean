/-
  Revocations: parts of rows, rows compared.
-/
import Derived.Test.YtmfhdhggpepbbaaDoorEd
namespace Go.Proofs.YtmfhdhggpepbbaaDoor
open Go Go.RowKit
/-- A part of a slice. -/
def sl (a : Option Addr) (cap lo hi : Nat) : Value := .slice (if cap = lo then a else a.map (·.add lo)) (hi - lo) (cap - lo)
set_option maxRecDepth 100000 in
theorem cut_lh (a : Option Addr) (n cap lo hi : Nat) (h1 : lo ≤ hi) (h2 : hi ≤ cap) (W : World) : (Instr.slice 26 (.slice a n cap) (some (.int .i64 (lo : Int))) (some (.int .i64 (hi : Int))) none).run Tryd.prog W = .ok (sl a cap lo hi) W := by
  have he : Tryd.prog.elem 26 = 3 := by kernel_rfl
  have hs : ((sizeOf 3).run Tryd.prog W) = .ok 1 W := by kernel_rfl
  rw [run_slice_lh W 26 a n cap (by rw [he]; exact Tryd.underlying26) .i64 .i64 (lo : Int) (hi : Int) (by omega) (by omega) (by omega), he, hs]
  simp only [Result.andThen, sliced, Int.toNat_natCast, Nat.mul_one, sl]
set_option maxRecDepth 100000 in
theorem cut_h (a : Option Addr) (n cap hi : Nat) (h2 : hi ≤ cap) (W : World) : (Instr.slice 26 (.slice a n cap) none (some (.int .i64 (hi : Int))) none).run Tryd.prog W = .ok (.slice a hi cap) W := by
  have he : Tryd.prog.elem 26 = 3 := by kernel_rfl
  have hs : ((sizeOf 3).run Tryd.prog W) = .ok 1 W := by kernel_rfl
  rw [run_slice_h W 26 a n cap (by rw [he]; exact Tryd.underlying26) .i64 (hi : Int) (by omega) (by omega), he, hs]
  simp only [Result.andThen, sliced, Int.toNat_natCast, Nat.zero_mul, Nat.sub_zero]
  congr 2
  rcases a with _ | ad
  · simp
  · simp [Addr.add]
set_option maxRecDepth 100000 in
theorem cut_l (a : Option Addr) (n cap lo : Nat) (h1 : lo ≤ n) (W : World) : (Instr.slice 26 (.slice a n cap) (some (.int .i64 (lo : Int))) none none).run Tryd.prog W = .ok (sl a cap lo n) W := by
  have he : Tryd.prog.elem 26 = 3 := by kernel_rfl
  have hs : ((sizeOf 3).run Tryd.prog W) = .ok 1 W := by kernel_rfl
  rw [run_slice_l W 26 a n cap (by rw [he]; exact Tryd.underlying26) .i64 (lo : Int) (by omega) (by omega), he, hs]
  simp only [Result.andThen, sliced, Int.toNat_natCast, Nat.mul_one, sl]
theorem IsL.part {W : World} {a : Option Addr} {n cap : Nat} {l : List Int} (h : IsL W (.slice a n cap) l) (lo hi : Nat) (h1 : lo ≤ hi) (h2 : hi ≤ n) : IsL W (sl a cap lo hi) ((l.take hi).drop lo) := by
  obtain ⟨a', cap0, hv, hc, hn, hr⟩ := h
  injection hv with e1 e2 e3
  subst e1 e2 e3
  unfold sl
  have hlen : ((l.take hi).drop lo).length = hi - lo := by rw [List.length_drop, List.length_take]; omega
  rcases a with _ | ad
  · have := hn rfl
    refine ⟨none, cap - lo, by rw [hlen]; simp, by rw [hlen]; omega, fun _ => by omega, fun hp => by omega⟩
  · by_cases hcl : cap = lo
    · rw [if_pos hcl]
      exact ⟨some ad, cap - lo, by rw [hlen], by rw [hlen]; omega, (fun h => by cases h), fun hp => by omega⟩
    · rw [if_neg hcl]
      refine ⟨some (ad.add lo), cap - lo, by rw [hlen]; rfl, by rw [hlen]; omega, (fun h => by cases h), fun hp => ?_⟩
      obtain ⟨c, o, cs, fr, ha, hh, hcs⟩ := hr (by omega)
      injection ha with ha
      subst ha
      refine ⟨c, o + lo, cs, fr, by rw [Addr.add_lit], hh, fun i hi' => ?_⟩
      rw [hlen] at hi'
      rw [Nat.add_assoc, hcs (lo + i) (by omega)]
      simp [List.getD_eq_getElem?_getD, List.getElem?_drop, show lo + i < hi by omega]
theorem sl_form (a : Option Addr) (cap lo hi : Nat) : ∃ a', sl a cap lo hi = .slice a' (hi - lo) (cap - lo) := ⟨_, rfl⟩
theorem ext_getI {a b : List Int} (hl : a.length = b.length) (h : ∀ i, i < a.length → a.getD i 0 = b.getD i 0) : a = b := by
  apply List.ext_getElem hl
  intro i h1 h2
  have := h i h1
  rwa [List.getD_eq_getElem?_getD, List.getD_eq_getElem?_getD, List.getElem?_eq_getElem h1, List.getElem?_eq_getElem h2] at this
theorem drewN_below {B : Nat} {w W : World} (h : Below B w W) (n : Nat) : Below B w (W.drewN n) := ⟨h.os, h.tape, h.output, h.size, h.block⟩
set_option maxRecDepth 100000 in
set_option maxHeartbeats 1000000 in
/-- slices.Equal. -/
theorem equal_any8 (l1 l2 : List Int) (v1 v2 : Value) (w : World) (h1 : IsL w v1 l1) (h2 : IsL w v2 l2) (hl1 : l1.length ≤ 1000000) (hl2 : l2.length ≤ 1000000) :
    Calls Tryd.prog 73 #[v1, v2] w fun e w' => e = .returned (.bool (decide (l1 = l2))) ∧ Below w.heap.size w w' := by
  obtain ⟨z, hz⟩ : ∃ z, decide (l1 = l2) = z := ⟨_, rfl⟩
  rw [hz]
  obtain ⟨a, ca, hv1⟩ := h1.form
  obtain ⟨b, cb, hv2⟩ := h2.form
  subst hv1 hv2
  have H1 : Bx (∀ W, Below w.heap.size w W → Ints W (.slice a l1.length ca) l1) := ⟨fun W h => (h1.later h).ints⟩
  have H2 : Bx (∀ W, Below w.heap.size w W → Ints W (.slice b l2.length cb) l2) := ⟨fun W h => (h2.later h).ints⟩
  have HE : Bx (l1.length = l2.length → (∀ i, i < l1.length → l1.getD i 0 = l2.getD i 0) → z = true) := ⟨fun h h' => by rw [← hz]; exact decide_eq_true (ext_getI h h')⟩
  have HN : Bx (l1.length ≠ l2.length → z = false) := ⟨fun h => by rw [← hz]; exact decide_eq_false (fun e => h (by rw [e]))⟩
  have HM : Bx (∀ k : Nat, l1.getD k 0 ≠ l2.getD k 0 → z = false) := ⟨fun k h => by rw [← hz]; exact decide_eq_false (fun e => h (by rw [e]))⟩
  clear hz
  obtain ⟨n, hn⟩ : ∃ n, l1.length = n := ⟨_, rfl⟩
  obtain ⟨m, hm⟩ : ∃ m, l2.length = m := ⟨_, rfl⟩
  have HL1 := Bx.mk hn
  have HL2 := Bx.mk hm
  rw [hn] at hl1 H1 HE HN ⊢
  rw [hm] at hl2 H2 HE HN ⊢
  clear h1 h2 hn hm
  by_cases hnm : n = m
  · subst hnm
    have HE2 : Bx ((∀ i, i < n → l1.getD i 0 = l2.getD i 0) → z = true) := ⟨HE.out rfl⟩
    clear HE
    have hn1 : (n : Int) ≤ 1000000 := by omega
    have B0 := Bx.mk (Below.refl w.heap.size w)
    go_enter Tryd.func73, Tryd.ntmps73
    go_wp2
    go_loopw [13] (fun i wr => ∃ k : Nat, k ≤ n ∧ i = .int .i64 (k : Int) ∧ Bx (∀ j, j < k → l1.getD j 0 = l2.getD j 0) ∧ Bx (Below w.heap.size w wr)) (fun i _ => n - (intOf i).toNat)
    case atStart => exact ⟨0, Nat.zero_le _, rfl, ⟨fun j hj => absurd hj (Nat.not_lt_zero _)⟩, B0⟩
    case round =>
      obtain ⟨k, hk, rfl, HA, HB⟩ := hrel
      clear B0
      by_cases hlt : k < n
      · have hk1 : (k : Int) < (n : Int) := by omega
        have hk0 : (0 : Int) ≤ (k : Int) := by omega
        obtain ⟨_, _, hv, _, _, hr⟩ := H1.out _ HB.out
        injection hv with e1 e2 e3
        subst e1
        clear e2 e3
        obtain ⟨c, o, rfl, hf⟩ := hr (by rw [HL1.out]; omega)
        have hc := hf k (by rw [HL1.out]; exact hlt)
        obtain ⟨_, _, hv, _, _, hr⟩ := H2.out _ HB.out
        injection hv with e1 e2 e3
        subst e1
        clear e2 e3
        obtain ⟨c2, o2, rfl, hf2⟩ := hr (by rw [HL2.out]; omega)
        have hc2 := hf2 k (by rw [HL2.out]; exact hlt)
        obtain ⟨x, hx⟩ : ∃ x, l1.getD k 0 = x := ⟨_, rfl⟩
        obtain ⟨y, hy⟩ : ∃ y, l2.getD k 0 = y := ⟨_, rfl⟩
        have HX := Bx.mk hx
        have HY := Bx.mk hy
        rw [hx] at hc
        rw [hy] at hc2
        clear hf hf2 hr hx hy
        by_cases hxy : x = y
        · subst hxy
          go_wp2
          go_quiet (fail)
          go_wp2
          go_roundw
          case rel => exact ⟨k + 1, by omega, by go_num, ⟨fun j hj => by
            by_cases e : j = k
            · subst e; rw [HX.out, HY.out]
            · exact HA.out j (by omega)⟩, ⟨drewN_below HB.out _⟩⟩
          case measure => simp [intOf]; omega
        · have HZ := Bx.mk (HM.out k (by rw [HX.out, HY.out]; exact hxy))
          clear HM HN HE2
          go_wp2
          go_quiet (fail)
          go_wp2
          go_ret
          exact ⟨by rw [HZ.out]; rfl, drewN_below HB.out _⟩
      · obtain rfl : k = n := by omega
        go_wp2
        go_ret
        exact ⟨by rw [HE2.out HA.out]; rfl, HB.out⟩
  · have hnm' : (n : Int) ≠ (m : Int) := by omega
    go_enter Tryd.func73, Tryd.ntmps73
    go_wp2
    go_ret
    exact ⟨by rw [HN.out hnm]; rfl, Below.refl _ _⟩
end Go.Proofs.YtmfhdhggpepbbaaDoor
