/-
  The walks of signs as bytes.
-/
import Derived.Test.YtkfgpnigeknhmaaDoorWk
namespace Go.Proofs.YtkfgpnigeknhmaaDoor
open Go Go.RowKit
/-- What a sign is worth. -/
def val (c : UInt8) : Option Nat := if 48 ≤ c.toNat ∧ c.toNat ≤ 57 then some (c.toNat - 48) else if 97 ≤ c.toNat ∧ c.toNat ≤ 102 then some (c.toNat - 87) else none
theorem worth_some (c : UInt8) (n : Nat) (w : World) (h : val c = some n) : Calls Tryd.prog 44 #[.int .u8 (ub c)] w fun e w' => e = .returned (.tuple #[.int .u8 (n : Int), .bool true]) ∧ w = w' := by
  have hc := c.toNat_lt
  unfold val at h
  by_cases h1 : 48 ≤ c.toNat ∧ c.toNat ≤ 57
  · rw [if_pos h1] at h
    injection h with h
    have a1 : (48 : Int) ≤ ub c := by unfold ub; omega
    have a2 : ub c ≤ (57 : Int) := by unfold ub; omega
    have a3 : ub c - 48 = (n : Int) := by unfold ub; omega
    clear h h1 hc
    go_enter Tryd.func44, Tryd.ntmps44
    go_wp2
    go_ret2
    exact ⟨rfl, rfl⟩
  · rw [if_neg h1] at h
    by_cases h2 : 97 ≤ c.toNat ∧ c.toNat ≤ 102
    · rw [if_pos h2] at h
      injection h with h
      have a1 : (97 : Int) ≤ ub c := by unfold ub; omega
      have a2 : ub c ≤ (102 : Int) := by unfold ub; omega
      have a3 : ub c - 97 + 10 = (n : Int) := by unfold ub; omega
      have a4 : (48 : Int) ≤ ub c := by omega
      have a5 : ¬ ub c ≤ (57 : Int) := by omega
      clear h h1 h2 hc
      go_enter Tryd.func44, Tryd.ntmps44
      go_wp2
      go_ret2
      exact ⟨rfl, rfl⟩
    · rw [if_neg h2] at h; cases h
theorem worth_none (c : UInt8) (w : World) (h : val c = none) : Calls Tryd.prog 44 #[.int .u8 (ub c)] w fun e w' => e = .returned (.tuple #[.int .u8 0, .bool false]) ∧ w = w' := by
  have hc := c.toNat_lt
  have h1 : ¬ (48 ≤ c.toNat ∧ c.toNat ≤ 57) := fun h1 => by unfold val at h; rw [if_pos h1] at h; cases h
  have h2 : ¬ (97 ≤ c.toNat ∧ c.toNat ≤ 102) := fun h2 => by unfold val at h; rw [if_neg h1, if_pos h2] at h; cases h
  have h1' : ub c < 48 ∨ 57 < ub c := by unfold ub; omega
  have h2' : ub c < 97 ∨ 102 < ub c := by unfold ub; omega
  clear h h1 h2 hc
  rcases h1' with h1 | h1
  · have a1 : ¬ (48 : Int) ≤ ub c := by omega
    have a2 : ¬ (97 : Int) ≤ ub c := by omega
    clear h2'
    go_enter Tryd.func44, Tryd.ntmps44
    go_wp2
    go_ret2
    exact ⟨rfl, rfl⟩
  · rcases h2' with h2 | h2
    · have a1 : (48 : Int) ≤ ub c := by omega
      have a2 : ¬ (97 : Int) ≤ ub c := by omega
      have a3 : ¬ ub c ≤ 57 := by omega
      go_enter Tryd.func44, Tryd.ntmps44
      go_wp2
      go_ret2
      exact ⟨rfl, rfl⟩
    · have a1 : (48 : Int) ≤ ub c := by omega
      have a2 : (97 : Int) ≤ ub c := by omega
      have a3 : ¬ ub c ≤ 57 := by omega
      have a4 : ¬ ub c ≤ 102 := by omega
      go_enter Tryd.func44, Tryd.ntmps44
      go_wp2
      go_ret2
      exact ⟨rfl, rfl⟩
theorem sign_any (n : Nat) (h : n < 16) (w : World) : Calls Tryd.prog 21 #[.int .u8 (n : Int)] w fun e w' => e = .returned (.int .u8 (ub (sgn n))) ∧ w = w' := by
  by_cases h1 : n < 10
  · have a1 : (n : Int) < 10 := by omega
    have e : 48 + (n : Int) = ub (sgn n) := by unfold sgn ub; rw [if_pos h1, UInt8.toNat_ofNat']; omega
    go_enter Tryd.func21, Tryd.ntmps21
    go_wp2
    go_ret
    exact ⟨rfl, rfl⟩
  · have a1 : ¬ (n : Int) < 10 := by omega
    have a2 : (n : Int) < 16 := by omega
    have e : 97 + (n : Int) - 10 = ub (sgn n) := by unfold sgn ub; rw [if_neg h1, UInt8.toNat_ofNat']; omega
    go_enter Tryd.func21, Tryd.ntmps21
    go_wp2
    go_ret
    exact ⟨rfl, rfl⟩
end Go.Proofs.YtkfgpnigeknhmaaDoor
