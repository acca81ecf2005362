/-
  Signs and bytes: plain lists; the walks of what compares.
-/
import Derived.Test.YtkfgpnigeknhmaaDoorWl
namespace Go.Proofs.YtkfgpnigeknhmaaDoor
open Go Go.RowKit
theorem sgn_toNat (n : Nat) (h : n < 16) : (sgn n).toNat = if n < 10 then 48 + n else 87 + n := by
  unfold sgn
  split
  · rw [UInt8.toNat_ofNat']; omega
  · rw [UInt8.toNat_ofNat']; omega
theorem val_sgn (n : Nat) (h : n < 16) : val (sgn n) = some n := by
  unfold val
  rw [sgn_toNat n h]
  by_cases h1 : n < 10
  · rw [if_pos h1, if_pos (by omega)]; congr 1; omega
  · rw [if_neg h1, if_neg (by omega), if_pos (by omega)]; congr 1; omega
theorem val_lt (c : UInt8) (n : Nat) (h : val c = some n) : n < 16 ∧ sgn n = c := by
  unfold val at h
  by_cases h1 : 48 ≤ c.toNat ∧ c.toNat ≤ 57
  · rw [if_pos h1] at h
    injection h with h
    refine ⟨by omega, UInt8.toNat_inj.mp ?_⟩
    rw [sgn_toNat n (by omega), if_pos (by omega)]; omega
  · rw [if_neg h1] at h
    by_cases h2 : 97 ≤ c.toNat ∧ c.toNat ≤ 102
    · rw [if_pos h2] at h
      injection h with h
      refine ⟨by omega, UInt8.toNat_inj.mp ?_⟩
      rw [sgn_toNat n (by omega), if_neg (by omega)]; omega
    · rw [if_neg h2] at h; cases h
/-- Signs that are right: two of each byte. -/
def Good (l : List UInt8) : Prop := l.length % 2 = 0 ∧ ∀ i, i < l.length → (val (l.getD i 0)).isSome = true
def decB (l : List UInt8) (i : Nat) : UInt8 := UInt8.ofNat (16 * (val (l.getD (2 * i) 0)).getD 0 + (val (l.getD (2 * i + 1) 0)).getD 0)
/-- The first j bytes of signs. -/
def decN (l : List UInt8) (j : Nat) : List UInt8 := (List.range j).map (decB l)
theorem decN_succ (l : List UInt8) (j : Nat) : decN l (j + 1) = decN l j ++ [decB l j] := by
  unfold decN
  rw [List.range_succ, List.map_append, List.map_singleton]
theorem decN_length (l : List UInt8) (j : Nat) : (decN l j).length = j := by simp [decN]
theorem hexOf_get (bs : List UInt8) (i : Nat) (h : i < bs.length) : (hexOf bs).getD (2 * i) 0 = sgn ((bs.getD i 0).toNat / 16) ∧ (hexOf bs).getD (2 * i + 1) 0 = sgn ((bs.getD i 0).toNat % 16) := by
  induction bs generalizing i with
  | nil => simp at h
  | cons b bs ih =>
    have e : hexOf (b :: bs) = sgn (b.toNat / 16) :: sgn (b.toNat % 16) :: hexOf bs := rfl
    rw [e]
    match i with
    | 0 => exact ⟨rfl, rfl⟩
    | i + 1 =>
      have := ih i (by simpa using h)
      rw [show 2 * (i + 1) = 2 * i + 1 + 1 by omega]
      exact this
theorem ext_getD {a b : List UInt8} (hl : a.length = b.length) (h : ∀ i, i < a.length → a.getD i 0 = b.getD i 0) : a = b := by
  apply List.ext_getElem hl
  intro i h1 h2
  have := h i h1
  simpa [h1, h2] using this
theorem good_hex (bs : List UInt8) : Good (hexOf bs) := by
  refine ⟨by rw [hexOf_length]; omega, fun i hi => ?_⟩
  rw [hexOf_length] at hi
  have hlt : (bs.getD (i / 2) 0).toNat < 256 := (bs.getD (i / 2) 0).toNat_lt
  have := hexOf_get bs (i / 2) (by omega)
  by_cases h : i % 2 = 0
  · rw [show i = 2 * (i / 2) by omega, this.1, val_sgn _ (by omega)]; rfl
  · rw [show i = 2 * (i / 2) + 1 by omega, this.2, val_sgn _ (by omega)]; rfl
theorem dec_hex (bs : List UInt8) : decN (hexOf bs) ((hexOf bs).length / 2) = bs := by
  have hl : (hexOf bs).length / 2 = bs.length := by rw [hexOf_length]; omega
  rw [hl]
  apply ext_getD (decN_length _ _)
  intro i hi
  rw [decN_length] at hi
  have h := hexOf_get bs i hi
  have hlt : (bs.getD i 0).toNat < 256 := (bs.getD i 0).toNat_lt
  have e : (decN (hexOf bs) bs.length).getD i 0 = decB (hexOf bs) i := by simp [decN, hi]
  rw [e]
  unfold decB
  rw [h.1, h.2, val_sgn _ (by omega), val_sgn _ (by omega)]
  apply UInt8.toNat_inj.mp
  rw [UInt8.toNat_ofNat']
  simp only [Option.getD_some]
  omega
theorem hex_dec (l : List UInt8) (h : Good l) : hexOf (decN l (l.length / 2)) = l := by
  apply ext_getD
  · rw [hexOf_length, decN_length]; have := h.1; omega
  · intro i hi
    rw [hexOf_length, decN_length] at hi
    have hg := hexOf_get (decN l (l.length / 2)) (i / 2) (by rw [decN_length]; omega)
    have e : (decN l (l.length / 2)).getD (i / 2) 0 = decB l (i / 2) := by
      have : i / 2 < l.length / 2 := by omega
      simp [decN, this]
    obtain ⟨x, hx⟩ := Option.isSome_iff_exists.1 (h.2 (2 * (i / 2)) (by omega))
    obtain ⟨y, hy⟩ := Option.isSome_iff_exists.1 (h.2 (2 * (i / 2) + 1) (by omega))
    have hx' := val_lt _ _ hx
    have hy' := val_lt _ _ hy
    have eb : (decB l (i / 2)).toNat = 16 * x + y := by
      unfold decB
      rw [hx, hy, UInt8.toNat_ofNat']
      simp only [Option.getD_some]
      omega
    rw [e, eb] at hg
    by_cases hp : i % 2 = 0
    · rw [show i = 2 * (i / 2) by omega, hg.1, show (16 * x + y) / 16 = x by omega, hx'.2]
    · rw [show i = 2 * (i / 2) + 1 by omega, hg.2, show (16 * x + y) % 16 = y by omega, hy'.2]
/-- A sign's worth as the document's answer tells it. -/
def valI (c : UInt8) : Int := match val c with | some n => (n : Int) | none => -1
theorem valI_at (c : UInt8) (k : Nat) (hk : k < 16) (h : sgn k = c) : valI c = (k : Int) := by
  unfold valI; rw [← h, val_sgn k hk]
theorem valI_none (c : UInt8) (h : ∀ j, j < 16 → sgn j ≠ c) : valI c = -1 := by
  unfold valI
  match hv : val c with
  | none => rfl
  | some n => exact absurd (val_lt c n hv).2 (h n (val_lt c n hv).1)
theorem value_any (c : UInt8) (w : World) : Calls Tryd.prog 23 #[.int .u8 (ub c)] w fun e w' => e = .returned (.int .i64 (valI c)) ∧ w = w' := by
  go_enter Tryd.func23, Tryd.ntmps23
  go_wp2
  go_loop [3] (fun n => ∃ k : Nat, k ≤ 16 ∧ n = .int .u8 k ∧ Bx (∀ j, j < k → sgn j ≠ c)) (fun n => 16 - (intOf n).toNat)
  case atStart => exact ⟨0, Nat.zero_le _, rfl, Bx.mk (fun j hj => by omega)⟩
  case round =>
    obtain ⟨k, hk, rfl, HB⟩ := hrel
    by_cases hlt : k < 16
    · by_cases he : sgn k = c
      · have hv := Bx.mk (valI_at c k hlt he)
        have e1 : (ub (sgn k) == ub c) = true := by rw [he]; simp
        clear he
        have hk1 : (k : Int) < 16 := by omega
        go_wp2_with (go_at_call 21; (refine (sign_any k hlt _).mono ?_); rintro e w' ⟨rfl, rfl⟩)
        go_ret
        exact ⟨by rw [hv.out]; rfl, rfl⟩
      · have e1 : (ub (sgn k) == ub c) = false := by
          simp only [beq_eq_false_iff_ne, ne_eq]
          exact fun h => he (ub_inj h)
        have HN : Bx (∀ j, j < k + 1 → sgn j ≠ c) := Bx.mk (fun j hj => by
          by_cases h : j = k
          · rw [h]; exact he
          · exact HB.out j (by omega))
        clear he HB
        have hk1 : (k : Int) < 16 := by omega
        go_wp2_with (go_at_call 21; (refine (sign_any k hlt _).mono ?_); rintro e w' ⟨rfl, rfl⟩)
        go_round
        case rel => exact ⟨k + 1, by omega, by go_num, HN⟩
        case measure => simp [intOf]; omega
    · have hv := Bx.mk (valI_none c (fun j hj => HB.out j (by omega)))
      go_wp2
      go_ret
      exact ⟨by rw [hv.out]; rfl, rfl⟩
end Go.Proofs.YtkfgpnigeknhmaaDoor
