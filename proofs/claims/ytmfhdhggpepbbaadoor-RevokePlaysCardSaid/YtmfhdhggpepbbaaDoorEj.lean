/-
  Revocations: is a serial revoked?
-/
import Derived.Test.YtmfhdhggpepbbaaDoorEi
namespace Go.Proofs.YtmfhdhggpepbbaaDoor
open Go Go.RowKit
set_option maxRecDepth 100000 in
set_option maxHeartbeats 1000000 in
theorem index_any8 (ns : List Int) (x : Int) (v : Value) (w : World) (hv : IsL w v ns) (hl : ns.length ≤ 1000000) :
    Calls Tryd.prog 82 #[v, .int .i64 x] w fun e w' => ∃ i : Int, e = .returned (.int .i64 i) ∧ (0 ≤ i ↔ x ∈ ns) ∧ Below w.heap.size w w' := by
  obtain ⟨a, cap, rfl⟩ := hv.form
  have HR : Bx (∀ W, Below w.heap.size w W → Ints W (.slice a ns.length cap) ns) := ⟨fun W h => (hv.later h).ints⟩
  have HM : Bx (∀ k, k < ns.length → ns.getD k 0 ∈ ns) := ⟨fun k hk => by
    rw [List.getD_eq_getElem?_getD, List.getElem?_eq_getElem hk]
    exact List.getElem_mem hk⟩
  have HX : Bx ((∀ k, k < ns.length → ns.getD k 0 ≠ x) → x ∉ ns) := ⟨fun h hx => by
    obtain ⟨k, hk, rfl⟩ := List.getElem_of_mem hx
    refine h k hk ?_
    rw [List.getD_eq_getElem?_getD, List.getElem?_eq_getElem hk]
    rfl⟩
  obtain ⟨Q, hQ⟩ : ∃ Q : Ending → World → Prop, (fun (e : Ending) (w' : World) => ∃ i : Int, e = .returned (.int .i64 i) ∧ (0 ≤ i ↔ x ∈ ns) ∧ Below w.heap.size w w') = Q := ⟨_, rfl⟩
  rw [hQ]
  have HQ1 : Bx (∀ (k : Nat) (w1 : World), x ∈ ns → Below w.heap.size w w1 → Q (.returned (.int .i64 (k : Int))) w1) := ⟨fun k w1 h hb => by rw [← hQ]; exact ⟨_, rfl, ⟨fun _ => h, fun _ => by omega⟩, hb⟩⟩
  have HQ2 : Bx (∀ (w1 : World), x ∉ ns → Below w.heap.size w w1 → Q (.returned (.int .i64 (-1))) w1) := ⟨fun w1 h hb => by rw [← hQ]; exact ⟨_, rfl, ⟨fun h' => by omega, fun h' => absurd h' h⟩, hb⟩⟩
  obtain ⟨n, hn⟩ : ∃ n, ns.length = n := ⟨_, rfl⟩
  have HN := Bx.mk hn
  rw [hn] at HR HM HX hl ⊢
  have hl1 : (n : Int) ≤ 1000000 := by omega
  clear hv hn hQ
  have B0 := Bx.mk (Below.refl w.heap.size w)
  go_enter Tryd.func82, Tryd.ntmps82
  go_wp2
  go_loopw [5, 8] (fun _ i wr => ∃ k : Nat, k ≤ n ∧ i = .int .i64 (k : Int) ∧ Bx (∀ j, j < k → ns.getD j 0 ≠ x) ∧ Bx (Below w.heap.size w wr)) (fun _ i _ => n - (intOf i).toNat)
  case atStart => exact ⟨0, Nat.zero_le _, rfl, ⟨fun j hj => absurd hj (Nat.not_lt_zero _)⟩, B0⟩
  case round =>
    obtain ⟨k, hk, rfl, HA, HB⟩ := hrel
    clear B0
    by_cases hlt : k < n
    · have hk1 : (k : Int) < (n : Int) := by omega
      have hk0 : (0 : Int) ≤ (k : Int) := by omega
      obtain ⟨_, _, hv, _, _, hr⟩ := HR.out _ HB.out
      injection hv with e1 e2 e3
      clear e2 e3
      subst e1
      obtain ⟨c, o, rfl, hf⟩ := hr (by rw [HN.out]; omega)
      have hc := hf k (by rw [HN.out]; exact hlt)
      obtain ⟨y, hy⟩ : ∃ y, ns.getD k 0 = y := ⟨_, rfl⟩
      have HY := Bx.mk hy
      rw [hy] at hc
      clear hf hr hy
      by_cases hxy : x = y
      · have HE := Bx.mk (HQ1.out k wr (by rw [hxy, ← HY.out]; exact HM.out k hlt) HB.out)
        subst hxy
        clear HQ1 HQ2 HR HM HX HA
        go_wp2
        exact HE.out
      · have HA2 : Bx (∀ j, j < k + 1 → ns.getD j 0 ≠ x) := ⟨fun j hj => by
          by_cases e : j = k
          · subst e; rw [HY.out]; exact fun h => hxy h.symm
          · exact HA.out j (by omega)⟩
        clear HA
        go_wp2
        go_roundw
        case rel => exact ⟨k + 1, by omega, by go_num, HA2, HB⟩
        case measure => simp [intOf]; omega
    · obtain rfl : k = n := by omega
      have HE := Bx.mk (HQ2.out wr (HX.out HA.out) HB.out)
      clear HQ1 HQ2 HR HM HX HA
      go_wp2
      exact HE.out
theorem contains_any8 (ns : List Int) (x : Int) (v : Value) (w : World) (hv : IsL w v ns) (hl : ns.length ≤ 1000000) :
    Calls Tryd.prog 66 #[v, .int .i64 x] w fun e w' => e = .returned (.bool (decide (x ∈ ns))) ∧ Below w.heap.size w w' := by
  have HC := Bx.mk (index_any8 ns x v w hv hl)
  obtain ⟨a, cap, rfl⟩ := hv.form
  clear hv hl
  go_enter Tryd.func66, Tryd.ntmps66
  go_wp2_with fail
  refine HC.out.mono ?_
  rintro e w1 ⟨i, rfl, hi, hb⟩
  have hd : decide (0 ≤ i) = decide (x ∈ ns) := by rw [Bool.eq_iff_iff]; simpa using hi
  have HD := Bx.mk hd
  clear hi hd HC
  go_wp2
  go_ret
  exact ⟨ret_bool HD.out, hb⟩
/-- Does any log have it? -/
def hasL4 (l : L4) (x : Int) : Bool := decide (x ∈ l.a) || (decide (x ∈ l.b) || (decide (x ∈ l.c) || decide (x ∈ l.d)))
set_option maxRecDepth 100000 in
set_option maxHeartbeats 1000000 in
theorem has_any8 (x : Int) (v : Value) (l : L4) (w : World) (hv : SetV w v l) (hg : Good l) : Calls Tryd.prog 39 #[v, .int .i64 x] w fun e w' => e = .returned (.bool (hasL4 l x)) ∧ Below w.heap.size w w' := by
  have HO := Bx.mk (own_any8 v l w hv)
  obtain ⟨pt, rfl⟩ := hv.ptr
  have HG := Bx.mk hg
  obtain ⟨z, hz⟩ : ∃ z, hasL4 l x = z := ⟨_, rfl⟩
  rw [hz]
  unfold hasL4 at hz
  have HZ := Bx.mk hz
  clear hv hg hz
  go_enter Tryd.func39, Tryd.ntmps39
  go_wp2_with fail
  refine HO.out.mono ?_
  rintro e w1 ⟨y, rfl, hx, hb⟩
  obtain ⟨p1, q1, t1, s1, a1, b1, c1, d1, rfl⟩ := hx.forms
  have i0 := idxL0 (.slice p1 l.a.length a1) (.slice q1 l.b.length b1) (.slice t1 l.c.length c1) (.slice s1 l.d.length d1)
  have i1 := idxL1 (.slice p1 l.a.length a1) (.slice q1 l.b.length b1) (.slice t1 l.c.length c1) (.slice s1 l.d.length d1)
  have i2 := idxL2 (.slice p1 l.a.length a1) (.slice q1 l.b.length b1) (.slice t1 l.c.length c1) (.slice s1 l.d.length d1)
  have i3 := idxL3 (.slice p1 l.a.length a1) (.slice q1 l.b.length b1) (.slice t1 l.c.length c1) (.slice s1 l.d.length d1)
  have H1 : Bx (Rows4 w1 _ l ∧ Below w.heap.size w w1) := ⟨hx, hb⟩
  clear hx hb HO
  unfold VV.v
  go_wp2
  refine wp_loop_rounds 5 ?_
  rw [rounds_succ]
  go_wp2_with fail
  refine (contains_any8 l.a x _ w1 H1.out.1.a (by have := HG.out.a; omega)).mono ?_
  rintro e w2 ⟨rfl, hb⟩
  have H2 : Bx (Rows4 w2 _ l ∧ Below w.heap.size w w2) := ⟨H1.out.1.later hb, H1.out.2.trans (hb.mono H1.out.2.size)⟩
  clear hb H1
  by_cases h0 : x ∈ l.a
  · have HE : Bx (z = true) := ⟨by rw [← HZ.out]; simp [h0]⟩
    go_wp2
    go_ret
    exact ⟨by rw [HE.out]; rfl, H2.out.2⟩
  go_wp2
  rw [rounds_succ]
  go_wp2_with fail
  refine (contains_any8 l.b x _ w2 H2.out.1.b (by have := HG.out.b; omega)).mono ?_
  rintro e w3 ⟨rfl, hb⟩
  have H3 : Bx (Rows4 w3 _ l ∧ Below w.heap.size w w3) := ⟨H2.out.1.later hb, H2.out.2.trans (hb.mono H2.out.2.size)⟩
  clear hb H2
  by_cases h1 : x ∈ l.b
  · have HE : Bx (z = true) := ⟨by rw [← HZ.out]; simp [h1]⟩
    go_wp2
    go_ret
    exact ⟨by rw [HE.out]; rfl, H3.out.2⟩
  go_wp2
  rw [rounds_succ]
  go_wp2_with fail
  refine (contains_any8 l.c x _ w3 H3.out.1.c (by have := HG.out.c; omega)).mono ?_
  rintro e w4 ⟨rfl, hb⟩
  have H4 : Bx (Rows4 w4 _ l ∧ Below w.heap.size w w4) := ⟨H3.out.1.later hb, H3.out.2.trans (hb.mono H3.out.2.size)⟩
  clear hb H3
  by_cases h2 : x ∈ l.c
  · have HE : Bx (z = true) := ⟨by rw [← HZ.out]; simp [h2]⟩
    go_wp2
    go_ret
    exact ⟨by rw [HE.out]; rfl, H4.out.2⟩
  go_wp2
  rw [rounds_succ]
  go_wp2_with fail
  refine (contains_any8 l.d x _ w4 H4.out.1.d (by have := HG.out.d; omega)).mono ?_
  rintro e w5 ⟨rfl, hb⟩
  have H5 : Bx (Rows4 w5 _ l ∧ Below w.heap.size w w5) := ⟨H4.out.1.later hb, H4.out.2.trans (hb.mono H4.out.2.size)⟩
  clear hb H4
  by_cases h3 : x ∈ l.d
  · have HE : Bx (z = true) := ⟨by rw [← HZ.out]; simp [h3]⟩
    go_wp2
    go_ret
    exact ⟨by rw [HE.out]; rfl, H5.out.2⟩
  go_wp2
  rw [rounds_succ]
  have HE : Bx (z = false) := ⟨by rw [← HZ.out]; simp [h0, h1, h2, h3]⟩
  go_wp2
  go_ret
  exact ⟨by rw [HE.out]; rfl, H5.out.2⟩
end Go.Proofs.YtmfhdhggpepbbaaDoor
