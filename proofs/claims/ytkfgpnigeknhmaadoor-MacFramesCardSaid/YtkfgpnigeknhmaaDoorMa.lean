/-
  Tags under keys as plain functions on lists, and the small walks of the package mac.
-/
import Derived.Test.YtkfgpnigeknhmaaDoorLs
namespace Go.Proofs.YtkfgpnigeknhmaaDoor
open Go Go.RowKit
/-- A key's whole block. -/
def fillK (k : List UInt8) : List UInt8 := k ++ List.replicate (64 - k.length) 0
def shortK (key : List UInt8) : List UInt8 := if 64 < key.length then sha key else key
def keyB (key : List UInt8) : List UInt8 := fillK (shortK key)
/-- Bits turned. -/
def turn (b : UInt8) (l : List UInt8) : List UInt8 := l.map (· ^^^ b)
/-- A tag. -/
def hmac (key msg : List UInt8) : List UInt8 := sha (turn 92 (keyB key) ++ sha (turn 54 (keyB key) ++ msg))
/-- A length as four bytes. -/
def lenB (n : Nat) : List UInt8 := four (BitVec.ofNat 32 n)
def framed (ps : List (List UInt8)) : List (List UInt8) := ps.flatMap fun p => [lenB p.length, p]
def frame (ps : List (List UInt8)) : List UInt8 := (framed ps).flatten
theorem shortK_length (key : List UInt8) : (shortK key).length ≤ 64 := by
  unfold shortK
  split
  · rw [sha_length]; omega
  · omega
theorem fillK_length (k : List UInt8) (h : k.length ≤ 64) : (fillK k).length = 64 := by
  unfold fillK; rw [List.length_append, List.length_replicate]; omega
theorem keyB_length (key : List UInt8) : (keyB key).length = 64 := fillK_length _ (shortK_length key)
theorem turn_length (b : UInt8) (l : List UInt8) : (turn b l).length = l.length := by unfold turn; rw [List.length_map]
theorem ub_xor (x y : UInt8) : bits .xor .u8 (ub x) (ub y) = ub (x ^^^ y) := by
  unfold ub
  rw [u8_xor_nat _ _ x.toNat_lt y.toNat_lt, UInt8.toNat_xor]
theorem ub_or (x y : UInt8) : bits .or .u8 (ub x) (ub y) = ub (x ||| y) := by
  unfold ub
  rw [u8_or_nat _ _ x.toNat_lt y.toNat_lt, UInt8.toNat_or]
theorem ub_mod (x : UInt8) : ub x % 256 = ub x := by have := ub_nonneg x; have := ub_le x; omega
/-- A block, k of whose bytes are turned. -/
def trn (b : UInt8) (l : List UInt8) : Nat → List UInt8
  | 0 => l
  | k + 1 => (trn b l k).set k ((trn b l k).getD k 0 ^^^ b)
theorem trn_length (b : UInt8) (l : List UInt8) (k : Nat) : (trn b l k).length = l.length := by
  induction k with
  | zero => rfl
  | succ k ih => rw [trn, List.length_set, ih]
theorem trn_get (b : UInt8) (l : List UInt8) (k i : Nat) (hi : i < l.length) : (trn b l k).getD i 0 = if i < k then l.getD i 0 ^^^ b else l.getD i 0 := by
  induction k with
  | zero => simp [trn]
  | succ k ih =>
    rw [trn]
    by_cases h : i = k
    · subst h
      rw [if_pos (by omega)]
      rw [if_neg (by omega)] at ih
      rw [← ih, List.getD_eq_getElem?_getD, List.getElem?_set, if_pos rfl, if_pos (by rw [trn_length]; exact hi)]
      rfl
    · rw [List.getD_eq_getElem?_getD, List.getElem?_set_ne (by omega), ← List.getD_eq_getElem?_getD, ih]
      by_cases h1 : i < k
      · rw [if_pos h1, if_pos (by omega)]
      · rw [if_neg h1, if_neg (by omega)]
theorem trn_all (b : UInt8) (l : List UInt8) (n : Nat) (h : l.length = n) : trn b l n = turn b l := by
  apply List.ext_getElem
  · rw [trn_length, turn_length]
  · intro i h1 h2
    have hi : i < l.length := by rw [trn_length] at h1; exact h1
    have e := trn_get b l n i hi
    rw [if_pos (by omega)] at e
    have e1 : (trn b l n).getD i 0 = (trn b l n)[i] := by simp [h1]
    have e2 : l.getD i 0 = l[i] := by simp [hi]
    rw [e1, e2] at e
    rw [e]
    simp [turn]
/-- Which bits have been found unlike. -/
def unl (xs ys : List UInt8) : Nat → UInt8
  | 0 => 0
  | k + 1 => unl xs ys k ||| (xs.getD k 0 ^^^ ys.getD k 0)
theorem or_zero (a b : UInt8) : a ||| b = 0 ↔ a = 0 ∧ b = 0 := by
  constructor
  · intro h
    have h' := congrArg UInt8.toBitVec h
    rw [UInt8.toBitVec_or] at h'
    constructor
    · apply UInt8.eq_of_toBitVec_eq
      have : a.toBitVec ||| b.toBitVec = 0#8 := h'
      exact (BitVec.or_eq_zero_iff.1 this).1
    · apply UInt8.eq_of_toBitVec_eq
      have : a.toBitVec ||| b.toBitVec = 0#8 := h'
      exact (BitVec.or_eq_zero_iff.1 this).2
  · rintro ⟨rfl, rfl⟩; rfl
theorem xor_zero (a b : UInt8) : a ^^^ b = 0 ↔ a = b := by
  constructor
  · intro h
    have h' := congrArg UInt8.toBitVec h
    rw [UInt8.toBitVec_xor] at h'
    apply UInt8.eq_of_toBitVec_eq
    exact BitVec.xor_eq_zero_iff.1 h'
  · rintro rfl; simp
theorem unl_zero (xs ys : List UInt8) (k : Nat) : unl xs ys k = 0 ↔ ∀ i, i < k → xs.getD i 0 = ys.getD i 0 := by
  induction k with
  | zero => simp [unl]
  | succ k ih =>
    rw [unl, or_zero, ih, xor_zero]
    constructor
    · rintro ⟨h1, h2⟩ i hi
      by_cases h : i = k
      · rw [h]; exact h2
      · exact h1 i (by omega)
    · intro h
      exact ⟨fun i hi => h i (by omega), h k (by omega)⟩
theorem unl_all (xs ys : List UInt8) (n : Nat) (h1 : xs.length = n) (h2 : ys.length = n) : (ub (unl xs ys n) == 0) = decide (xs = ys) := by
  rw [Bool.eq_iff_iff]
  simp only [beq_iff_eq, decide_eq_true_eq]
  constructor
  · intro h
    have h0 : unl xs ys n = 0 := ub_inj h
    rw [unl_zero] at h0
    apply List.ext_getElem
    · omega
    · intro i a1 a2
      have := h0 i (by omega)
      simpa [a1, a2] using this
  · rintro rfl
    have : unl xs xs n = 0 := (unl_zero _ _ _).2 fun _ _ => rfl
    rw [this]; rfl
end Go.Proofs.YtkfgpnigeknhmaaDoor
