/-
  The document's Mask.
-/
import Derived.Test.YtiengbmnfbbgoaaDoorCk
namespace Go.Proofs.YtiengbmnfbbgoaaDoor
open Go Go.RowKit
/-- What the document's Mask answers. -/
def dMask (ns : List Int) : Int := if ns.all isR = true then (mkN ns : Int) else -1
/-- Whether a role is among the first ones. -/
def inK (ns : List Int) (r : Int) (k : Nat) : Int := if (ns.take k).any (fun z => decide (z = r)) = true then 1 else 0
theorem inK_succ (ns : List Int) (r : Int) (k : Nat) (hk : k < ns.length) : inK ns r (k + 1) = if ns.getD k 0 = r then 1 else inK ns r k := by
  unfold inK
  rw [List.take_succ_eq_append_getElem hk, List.any_append]
  have e : ns.getD k 0 = ns[k] := by simp [hk]
  rw [e]
  by_cases h : ns[k] = r
  · simp [h]
  · simp [h]
theorem mask_step (ns : List Int) (h : ns.all isR = true) (r : Nat) : 2 * (mkN ns / 2 ^ (r + 1)) + (inK ns (r : Int) ns.length).toNat = mkN ns / 2 ^ r := by
  have hb : (inK ns (r : Int) ns.length).toNat = mkN ns / 2 ^ r % 2 := by
    have h1 := mk_bits ns h r
    unfold inK
    rw [List.take_of_length_le (Nat.le_refl _), ← h1]
    unfold bitN
    by_cases h2 : mkN ns / 2 ^ r % 2 = 1
    · rw [h2]; simp
    · have h3 : mkN ns / 2 ^ r % 2 = 0 := by omega
      rw [h3]; simp
  rw [hb, ← half]
  omega
theorem mask_top (ns : List Int) (h : ns.all isR = true) : mkN ns / 2 ^ 8 = 0 := by
  have := mkN_lt ns h
  exact Nat.div_eq_of_lt (by simpa using this)
/-- A counter's bounds, told apart by name. -/
structure MkR (ns : List Int) (r : Int) (m : Int) : Prop where
  lo : 0 ≤ m
  hi : m ≤ 255
  is : ∀ q : Nat, r = (q : Int) → m = ((mkN ns / 2 ^ (q + 1) : Nat) : Int)
set_option maxRecDepth 100000 in
set_option maxHeartbeats 2000000 in
theorem rmask_ok (ns : List Int) (v : Value) (w : World) (hv : Ints w v ns) (hl : ns.length ≤ 10) (ha : ns.all isR = true) :
    Calls Tryd.prog 31 #[v] w fun e w' => e = .returned (.int .i64 (mkN ns : Int)) ∧ w = w' := by
  have HA := Bx.mk ha
  have HV := Bx.mk hv
  obtain ⟨a, cap, rfl, -, -, -⟩ := hv
  obtain ⟨n, hn⟩ : ∃ n, ns.length = n := ⟨_, rfl⟩
  have HN := Bx.mk hn
  rw [hn] at HV hl ⊢
  have hn1 : (n : Int) ≤ 10 := by omega
  obtain ⟨mm, hmm⟩ : ∃ m, (mkN ns : Int) = m := ⟨_, rfl⟩
  have HM := Bx.mk hmm
  have HLt := Bx.mk (mkN_lt ns ha)
  rw [hmm]
  clear hn hmm ha
  go_enter Tryd.func31, Tryd.ntmps31
  go_wp2
  go_loopw [3, 4] (fun m r wr => ∃ q : Nat, q ≤ 8 ∧ r = .int .i64 ((q : Int) - 1) ∧ m = .int .i64 ((mkN ns / 2 ^ q : Nat) : Int) ∧ w = wr) (fun _ r _ => ((intOf r) + 1).toNat)
  case atStart => exact ⟨8, Nat.le_refl _, rfl, by rw [mask_top ns HA.out]; rfl, rfl⟩
  case round =>
    obtain ⟨q, hq, rfl, rfl, rfl⟩ := hrel
    by_cases h0 : q = 0
    · subst h0
      have t0 : ¬ ((0 : Int) ≤ ((0 : Nat) : Int) - 1) := by omega
      go_wp2
      go_ret
      exact ⟨by rw [← HM.out]; simp, rfl⟩
    · obtain ⟨p, rfl⟩ : ∃ p, q = p + 1 := ⟨q - 1, by omega⟩
      have hp : (p : Int) ≤ 7 := by omega
      have er : (((p + 1 : Nat) : Int) - 1) = (p : Int) := by omega
      rw [er]
      have HS := Bx.mk (mask_step ns HA.out p)
      have hlt : mkN ns / 2 ^ (p + 1) ≤ 255 := Nat.le_trans (Nat.div_le_self _ _) (by have := HLt.out; omega)
      generalize mkN ns / 2 ^ (p + 1) = mk at *
      have hmk : (mk : Int) ≤ 255 := by omega
      clear er
      go_wp2_with fail
      go_loopw [5, 6] (fun inn i wr => ∃ k : Nat, k ≤ n ∧ i = .int .i64 (k : Int) ∧ inn = .int .i64 (inK ns (p : Int) k) ∧ w = wr) (fun _ i _ => n - (intOf i).toNat)
      case atStart => exact ⟨0, Nat.zero_le _, rfl, rfl, rfl⟩
      case round =>
        obtain ⟨k, hk, rfl, rfl, rfl⟩ := hrel
        by_cases hlt2 : k < n
        · have hk1 : (k : Int) < (n : Int) := by omega
          have hk10 : (k : Int) ≤ 10 := by omega
          obtain ⟨a', cap', hv', hcap', hnil', hrow'⟩ := HV.out
          injection hv' with e1 e2 e3
          obtain ⟨b, o, ha, hcell⟩ := hrow' (by rw [HN.out]; omega)
          subst e1
          subst ha
          have hck := hcell k (by rw [HN.out]; exact hlt2)
          have HIn := Bx.mk (inK_succ ns (p : Int) k (by rw [HN.out]; exact hlt2))
          have hR : isR (ns.getD k 0) = true := (List.all_eq_true.1 HA.out) _ (by rw [List.getD_eq_getElem?_getD, List.getElem?_eq_getElem (by rw [HN.out]; exact hlt2)]; exact List.getElem_mem _)
          unfold isR at hR
          rw [Bool.and_eq_true, decide_eq_true_eq, decide_eq_true_eq] at hR
          generalize ns.getD k 0 = z at *
          have z1 : ¬ (z < 0) := by omega
          have z2 : ¬ ((7 : Int) < z) := by omega
          generalize inK ns (p : Int) k = ik at *
          clear hcap' hnil' hrow' e2 e3 hcell
          by_cases hz : z = (p : Int)
          · rw [if_pos hz] at HIn
            subst hz
            go_wp2
            go_roundw
            case rel => exact ⟨k + 1, by omega, by go_num, by rw [HIn.out], trivial⟩
            case measure => simp [intOf]; omega
          · rw [if_neg hz] at HIn
            go_wp2
            go_roundw
            case rel => exact ⟨k + 1, by omega, by go_num, by rw [HIn.out], trivial⟩
            case measure => simp [intOf]; omega
        · obtain rfl : k = n := by omega
          have hk2 : ¬ ((k : Int) < (k : Int)) := by omega
          have HE := Bx.mk HS.out
          rw [HN.out] at HE
          have h01 : 0 ≤ inK ns (p : Int) k ∧ inK ns (p : Int) k ≤ 1 := by unfold inK; split <;> omega
          obtain ⟨i0, i1⟩ := h01
          have HE2 : Bx (2 * (mk : Int) + inK ns (p : Int) k = ((mkN ns / 2 ^ p : Nat) : Int)) := Bx.mk (by have h := HE.out; omega)
          clear HE HS
          generalize inK ns (p : Int) k = ik at *
          go_wp2
          go_roundw
          case rel => exact ⟨p, by omega, by first | rfl | go_num, by rw [← HE2.out], trivial⟩
          case measure => simp [intOf] <;> omega
theorem all_take (ns : List Int) (k : Nat) (hk : k < ns.length) : (ns.take (k + 1)).all isR = ((ns.take k).all isR && isR (ns.getD k 0)) := by
  rw [List.take_succ_eq_append_getElem hk, List.all_append]
  simp [hk]
set_option maxRecDepth 100000 in
set_option maxHeartbeats 2000000 in
theorem rmask_bad (ns : List Int) (v : Value) (w : World) (hv : Ints w v ns) (hl : ns.length ≤ 10) (ha : ns.all isR = false) :
    Calls Tryd.prog 31 #[v] w fun e w' => e = .returned (.int .i64 (-1)) ∧ w = w' := by
  have HA := Bx.mk ha
  have HV := Bx.mk hv
  obtain ⟨a, cap, rfl, -, -, -⟩ := hv
  obtain ⟨n, hn⟩ : ∃ n, ns.length = n := ⟨_, rfl⟩
  have HN := Bx.mk hn
  rw [hn] at HV hl ⊢
  have hn1 : (n : Int) ≤ 10 := by omega
  clear hn ha
  go_enter Tryd.func31, Tryd.ntmps31
  go_wp2
  refine wp_loop_rounds 1 ?_
  rw [rounds_succ]
  go_wp2
  go_loopw [5, 6] (fun inn i wr => ∃ k : Nat, k ≤ n ∧ i = .int .i64 (k : Int) ∧ (∃ q : Int, inn = .int .i64 q) ∧ w = wr ∧ Bx ((ns.take k).all isR = true)) (fun _ i _ => n - (intOf i).toNat)
  case atStart => exact ⟨0, Nat.zero_le _, rfl, ⟨_, rfl⟩, rfl, Bx.mk rfl⟩
  case round =>
    obtain ⟨k, hk, rfl, ⟨q, rfl⟩, rfl, hall⟩ := hrel
    by_cases hlt2 : k < n
    · have hk1 : (k : Int) < (n : Int) := by omega
      have hk10 : (k : Int) ≤ 10 := by omega
      obtain ⟨a', cap', hv', hcap', hnil', hrow'⟩ := HV.out
      injection hv' with e1 e2 e3
      obtain ⟨b, o, ha, hcell⟩ := hrow' (by rw [HN.out]; omega)
      subst e1
      subst ha
      have hck := hcell k (by rw [HN.out]; exact hlt2)
      have HAt := Bx.mk (all_take ns k (by rw [HN.out]; exact hlt2))
      generalize ns.getD k 0 = z at *
      clear hcap' hnil' hrow' e2 e3 hcell
      cases hR : isR z
      · unfold isR at hR
        rw [Bool.and_eq_false_iff, decide_eq_false_iff_not, decide_eq_false_iff_not] at hR
        by_cases z1 : z < 0
        · go_wp2
          go_ret
          exact ⟨rfl, rfl⟩
        · have z2 : (7 : Int) < z := by omega
          go_wp2
          go_ret
          exact ⟨rfl, rfl⟩
      · have HAt2 : Bx ((ns.take (k + 1)).all isR = true) := Bx.mk (by rw [HAt.out, hall.out, hR]; rfl)
        unfold isR at hR
        rw [Bool.and_eq_true, decide_eq_true_eq, decide_eq_true_eq] at hR
        have z1 : ¬ (z < 0) := by omega
        have z2 : ¬ ((7 : Int) < z) := by omega
        clear HAt hall
        by_cases hz : z = 7
        · subst hz
          go_wp2
          go_roundw
          case rel => exact ⟨k + 1, by omega, by go_num, ⟨_, rfl⟩, trivial, HAt2⟩
          case measure => simp [intOf] <;> omega
        · go_wp2
          go_roundw
          case rel => exact ⟨k + 1, by omega, by go_num, ⟨_, rfl⟩, trivial, HAt2⟩
          case measure => simp [intOf] <;> omega
    · obtain rfl : k = n := by omega
      exfalso
      have h := hall.out
      rw [List.take_of_length_le (by rw [HN.out]; exact Nat.le_refl _), HA.out] at h
      exact absurd h (by decide)
end Go.Proofs.YtiengbmnfbbgoaaDoor
