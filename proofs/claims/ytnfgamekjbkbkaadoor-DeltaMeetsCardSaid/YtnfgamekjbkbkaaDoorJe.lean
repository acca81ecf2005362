/-
  Revocations: are serials right, and does one stand twice, as the document reckons.
  Revocations: are a delta's numbers as they may be, as the document reckons.
-/
import Derived.Test.YtnfgamekjbkbkaaDoorEy
namespace Go.Proofs.YtnfgamekjbkbkaaDoor
open Go Go.RowKit
set_option maxRecDepth 100000 in
theorem rright8 (l : List Int) (v : Value) (w : World) (hv : IsL w v l) (hl : l.length ≤ 1000000) :
    Calls Tryd.prog 51 #[v] w fun e w' => e = .returned (.bool (allS l)) ∧ w' = w := by
  obtain ⟨z, hz⟩ : ∃ z, allS l = z := ⟨_, rfl⟩
  rw [hz]
  obtain ⟨a, cap, -, hform⟩ : ∃ a cap, True ∧ v = .slice a l.length cap := by
    obtain ⟨a, cap, h⟩ := hv.form
    exact ⟨a, cap, trivial, h⟩
  subst hform
  have H1 := Bx.mk hv.ints
  have HT : Bx ((∀ i, i < l.length → okS (l.getD i 0) = true) → z = true) := ⟨fun h => by
    rw [← hz]
    refine List.all_eq_true.2 fun x hx => ?_
    obtain ⟨k, hk, rfl⟩ := List.getElem_of_mem hx
    have := h k hk
    rwa [List.getD_eq_getElem?_getD, List.getElem?_eq_getElem hk] at this⟩
  have HF : Bx (∀ k, k < l.length → okS (l.getD k 0) = false → z = false) := ⟨fun k hk h => by
    rw [← hz]
    refine List.all_eq_false.2 ⟨l.getD k 0, ?_, by rw [h]; decide⟩
    rw [List.getD_eq_getElem?_getD, List.getElem?_eq_getElem hk]
    exact List.getElem_mem hk⟩
  obtain ⟨n, hn⟩ : ∃ n, l.length = n := ⟨_, rfl⟩
  have HN := Bx.mk hn
  rw [hn] at hl H1 HT HF ⊢
  clear hv hz hn
  have hn1 : (n : Int) ≤ 1000000 := by omega
  go_enter Tryd.func51, Tryd.ntmps51
  go_wp2
  go_loopw [3] (fun i wr => ∃ k : Nat, k ≤ n ∧ i = .int .i64 (k : Int) ∧ Bx (∀ j, j < k → okS (l.getD j 0) = true) ∧ Bx (wr = w)) (fun i _ => n - (intOf i).toNat)
  case atStart => exact ⟨0, Nat.zero_le _, rfl, ⟨fun j hj => absurd hj (Nat.not_lt_zero _)⟩, ⟨rfl⟩⟩
  case round =>
    obtain ⟨k, hk, rfl, HA, HB⟩ := hrel
    have hwr := HB.out
    subst hwr
    by_cases hlt : k < n
    · have hk1 : (k : Int) < (n : Int) := by omega
      have hk0 : (0 : Int) ≤ (k : Int) := by omega
      obtain ⟨_, _, hv, _, _, hr⟩ := H1.out
      injection hv with e1 e2 e3
      subst e1
      clear e2 e3
      obtain ⟨c, o, rfl, hf⟩ := hr (by rw [HN.out]; omega)
      have hc := hf k (by rw [HN.out]; exact hlt)
      have HFk := Bx.mk (HF.out k hlt)
      obtain ⟨x, hx⟩ : ∃ x, l.getD k 0 = x := ⟨_, rfl⟩
      have HX := Bx.mk hx
      rw [hx] at hc HFk
      clear hf hr hx HF
      by_cases h1 : x < 1
      · have HZ : Bx (z = false) := ⟨HFk.out (by unfold okS; simp; omega)⟩
        clear HFk HT
        go_wp2
        go_ret
        exact ⟨by rw [HZ.out]; rfl, rfl⟩
      by_cases h2 : 65535 < x
      · have HZ : Bx (z = false) := ⟨HFk.out (by unfold okS; simp; omega)⟩
        clear HFk HT
        go_wp2
        go_ret
        exact ⟨by rw [HZ.out]; rfl, rfl⟩
      have HO : Bx (okS (l.getD k 0) = true) := ⟨by rw [HX.out]; unfold okS; simp; omega⟩
      clear HFk
      go_wp2
      go_roundw
      case rel => exact ⟨k + 1, by omega, by go_num, ⟨fun j hj => by
        by_cases e : j = k
        · subst e; exact HO.out
        · exact HA.out j (by omega)⟩, ⟨by first | rfl | trivial⟩⟩
      case measure => simp [intOf]; omega
    · obtain rfl : k = n := by omega
      go_wp2
      go_ret
      exact ⟨by rw [HT.out HA.out]; rfl, rfl⟩
theorem mem_take8 {l : List Int} {k : Nat} {x : Int} (hk : k ≤ l.length) : x ∈ l.take k ↔ ∃ j, j < k ∧ l.getD j 0 = x := by
  constructor
  · intro h
    obtain ⟨j, hj, rfl⟩ := List.getElem_of_mem h
    rw [List.length_take] at hj
    refine ⟨j, by omega, ?_⟩
    rw [List.getElem_take, List.getD_eq_getElem?_getD, List.getElem?_eq_getElem (by omega)]
    rfl
  · rintro ⟨j, hj, rfl⟩
    rw [List.getD_eq_getElem?_getD, List.getElem?_eq_getElem (by omega)]
    refine List.mem_of_getElem? (i := j) ?_
    rw [List.getElem?_take, if_pos hj, List.getElem?_eq_getElem (by omega)]
    rfl
set_option maxRecDepth 100000 in
set_option maxHeartbeats 1000000 in
theorem rtwice8 (l : List Int) (v : Value) (w : World) (hv : IsL w v l) (hl : l.length ≤ 1000000) :
    Calls Tryd.prog 80 #[v] w fun e w' => e = .returned (.bool (dupB l)) ∧ Below w.heap.size w w' := by
  obtain ⟨z, hz⟩ : ∃ z, dupB l = z := ⟨_, rfl⟩
  rw [hz]
  obtain ⟨a, cap, -, hform⟩ : ∃ a cap, True ∧ v = .slice a l.length cap := by
    obtain ⟨a, cap, h⟩ := hv.form
    exact ⟨a, cap, trivial, h⟩
  subst hform
  have H1 : Bx (∀ W, Below w.heap.size w W → Ints W (.slice a l.length cap) l) := ⟨fun W h => (hv.later h).ints⟩
  have HT : Bx ((∀ k, k < l.length → ∀ j, j < k → l.getD k 0 ≠ l.getD j 0) → z = false) := ⟨fun h => by
    rw [← hz]
    cases hd : dupB l
    · rfl
    · obtain ⟨k, hk, hm⟩ := (dup_iff l).1 hd
      obtain ⟨j, hj, e⟩ := (mem_take8 (by omega)).1 hm
      exact absurd e.symm (h k hk j hj)⟩
  have HF : Bx (∀ k j, k < l.length → j < k → l.getD k 0 = l.getD j 0 → z = true) := ⟨fun k j hk hj e => by
    rw [← hz]
    exact (dup_iff l).2 ⟨k, hk, (mem_take8 (by omega)).2 ⟨j, hj, e.symm⟩⟩⟩
  obtain ⟨n, hn⟩ : ∃ n, l.length = n := ⟨_, rfl⟩
  have HN := Bx.mk hn
  rw [hn] at hl H1 HT HF ⊢
  clear hv hz hn
  have hn1 : (n : Int) ≤ 1000000 := by omega
  have B0 := Bx.mk (Below.refl w.heap.size w)
  go_enter Tryd.func80, Tryd.ntmps80
  go_wp2
  go_loopw [3] (fun i wr => ∃ k : Nat, k ≤ n ∧ i = .int .i64 (k : Int) ∧ Bx (∀ k', k' < k → ∀ j, j < k' → l.getD k' 0 ≠ l.getD j 0) ∧ Bx (Below w.heap.size w wr)) (fun i _ => n - (intOf i).toNat)
  case atStart => exact ⟨0, Nat.zero_le _, rfl, ⟨fun j hj => absurd hj (Nat.not_lt_zero _)⟩, B0⟩
  case round =>
    obtain ⟨k, hk, rfl, HA, HB⟩ := hrel
    clear B0
    by_cases hlt : k < n
    · have hk1 : (k : Int) < (n : Int) := by omega
      have hk0 : (0 : Int) ≤ (k : Int) := by omega
      go_wp2
      go_loopw [4] (fun i wr => ∃ m : Nat, m ≤ k ∧ i = .int .i64 (m : Int) ∧ Bx (∀ j, j < m → l.getD k 0 ≠ l.getD j 0) ∧ Bx (Below w.heap.size w wr)) (fun i _ => k - (intOf i).toNat)
      case atStart => exact ⟨0, Nat.zero_le _, rfl, ⟨fun j hj => absurd hj (Nat.not_lt_zero _)⟩, HB⟩
      case round =>
        obtain ⟨m, hm, rfl, HC, HD⟩ := hrel
        clear HB
        by_cases hmk : m < k
        · have hm1 : (m : Int) < (k : Int) := by omega
          have hm0 : (0 : Int) ≤ (m : Int) := by omega
          have hm2 : (m : Int) < (n : Int) := by omega
          obtain ⟨_, _, hv, _, _, hr⟩ := H1.out _ HD.out
          injection hv with e1 e2 e3
          subst e1
          clear e2 e3
          obtain ⟨c, o, rfl, hf⟩ := hr (by rw [HN.out]; omega)
          have hc := hf k (by rw [HN.out]; exact hlt)
          have hc2 := hf m (by rw [HN.out]; omega)
          have HFk := Bx.mk (HF.out k m hlt hmk)
          obtain ⟨x, hx⟩ : ∃ x, l.getD k 0 = x := ⟨_, rfl⟩
          obtain ⟨y, hy⟩ : ∃ y, l.getD m 0 = y := ⟨_, rfl⟩
          have HX := Bx.mk hx
          have HY := Bx.mk hy
          rw [hx] at hc HFk
          rw [hy] at hc2 HFk
          clear hf hr hx hy
          by_cases hxy : x = y
          · have HZ : Bx (z = true) := ⟨HFk.out hxy⟩
            subst hxy
            clear HFk HT HF HA HC
            go_wp2
            go_quiet (fail)
            go_wp2
            go_ret
            exact ⟨by rw [HZ.out]; rfl, drewN_below HD.out _⟩
          · clear HFk
            go_wp2
            go_quiet (fail)
            go_wp2
            go_roundw
            case rel => exact ⟨m + 1, by omega, by go_num, ⟨fun j hj => by
              by_cases e : j = m
              · subst e; rw [HX.out, HY.out]; exact hxy
              · exact HC.out j (by omega)⟩, ⟨drewN_below HD.out _⟩⟩
            case measure => simp [intOf]; omega
        · obtain rfl : m = k := by omega
          go_wp2
          go_roundw
          case rel => exact ⟨m + 1, by omega, by go_num, ⟨fun k' hk' => by
            by_cases e : k' = m
            · subst e; exact HC.out
            · exact HA.out k' (by omega)⟩, HD⟩
          case measure => simp [intOf]; omega
    · obtain rfl : k = n := by omega
      go_wp2
      go_ret
      exact ⟨by rw [HT.out HA.out]; rfl, HB.out⟩
end Go.Proofs.YtnfgamekjbkbkaaDoor
namespace Go.Proofs.YtnfgamekjbkbkaaDoor
open Go Go.RowKit
end Go.Proofs.YtnfgamekjbkbkaaDoor
