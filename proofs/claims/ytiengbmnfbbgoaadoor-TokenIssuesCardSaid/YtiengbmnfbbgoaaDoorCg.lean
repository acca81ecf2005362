/-
  Claims: what Read and Parse give, in plain words.
-/
import Derived.Test.YtiengbmnfbbgoaaDoorCe
import Derived.Test.YtiengbmnfbbgoaaDoorCf
namespace Go.Proofs.YtiengbmnfbbgoaaDoor
open Go Go.RowKit
theorem valN_beN (k n : Nat) : valN (beN k n) = n % 256 ^ k := by
  induction k with
  | zero => simp [beN, valN, Nat.mod_one]
  | succ k ih =>
    rw [beN_succ, valN_cons, beN_length, ih, Nat.mod_pow_succ]
    have h : (UInt8.ofNat (n / 256 ^ k % 256)).toNat = n / 256 ^ k % 256 := by rw [UInt8.toNat_ofNat']; omega
    rw [h, Nat.mul_comm, Nat.add_comm]
theorem wid3 (s : Int) (h : s = 0 ∨ s = 1 ∨ s = 2) : wid s ≤ 4 := by rcases h with rfl | rfl | rfl <;> decide
theorem getR_short (l : List UInt8) (s : Int) (h : s = 0 ∨ s = 1 ∨ s = 2) (hl : l.length < wid s) : getR l 0 s = (Fd.zero, [], 4) := by
  unfold getR getF
  rw [if_neg (by simp), if_neg (by omega), if_neg (by omega), if_pos hl]
theorem getR_long (l : List UInt8) (s : Int) (h : s = 0 ∨ s = 1 ∨ s = 2) (hl : wid s ≤ l.length) : getR l 0 s = (⟨s, (valN (l.take (wid s)) : Int), []⟩, l.drop (wid s), 0) := by
  have h1 := valN_lt (l.take (wid s))
  have h2 : 256 ^ (l.take (wid s)).length ≤ 256 ^ 4 := Nat.pow_le_pow_right (by omega) (by rw [List.length_take]; have := wid3 s h; omega)
  unfold getR getF
  rw [if_neg (by simp), if_neg (by omega), if_neg (by omega), if_neg (by omega), if_neg (by omega)]
theorem stepR_bad (l : List UInt8) (e s : Int) (he : e ≠ 0) : stepR (l, e) s = (l, e) := by
  unfold stepR getR
  simp only
  rw [if_pos he]
theorem stepR_short (l : List UInt8) (s : Int) (h : s = 0 ∨ s = 1 ∨ s = 2) (hl : l.length < wid s) : stepR (l, 0) s = ([], 4) := by
  show (getR l 0 s).2 = _
  rw [getR_short l s h hl]
theorem stepR_long (l : List UInt8) (s : Int) (h : s = 0 ∨ s = 1 ∨ s = 2) (hl : wid s ≤ l.length) : stepR (l, 0) s = (l.drop (wid s), 0) := by
  show (getR l 0 s).2 = _
  rw [getR_long l s h hl]
theorem numR_long (l : List UInt8) (s : Int) (h : s = 0 ∨ s = 1 ∨ s = 2) (hl : wid s ≤ l.length) : numR (l, 0) s = (valN (l.take (wid s)) : Int) := by
  show (getR l 0 s).1.n = _
  rw [getR_long l s h hl]
/-- The numbers that nine bytes are. -/
def c9 (b : List UInt8) : Cl := ⟨(valN (b.take 2) : Int), (valN ((b.drop 2).take 1) : Int), (valN ((b.drop 3).take 4) : Int), (valN ((b.drop 7).take 2) : Int)⟩
theorem rd_short (b : List UInt8) (h : b.length < 9) : (rdR (b, 0)).2 = 4 := by
  unfold rdR
  by_cases h1 : b.length < 2
  · rw [stepR_short b 1 (by omega) h1, stepR_bad [] 4 _ (by omega), stepR_bad [] 4 _ (by omega), stepR_bad [] 4 _ (by omega)]
  rw [stepR_long b 1 (by omega) (by show 2 ≤ _; omega), show wid 1 = 2 from rfl]
  by_cases h2 : b.length < 3
  · rw [stepR_short _ 0 (by omega) (by rw [List.length_drop]; show _ < 1; omega), stepR_bad [] 4 _ (by omega), stepR_bad [] 4 _ (by omega)]
  rw [stepR_long _ 0 (by omega) (by rw [List.length_drop]; show 1 ≤ _; omega), show wid 0 = 1 from rfl, List.drop_drop]
  by_cases h3 : b.length < 7
  · rw [stepR_short _ 2 (by omega) (by rw [List.length_drop]; show _ < 4; omega), stepR_bad [] 4 _ (by omega)]
  rw [stepR_long _ 2 (by omega) (by rw [List.length_drop]; show 4 ≤ _; omega), show wid 2 = 4 from rfl, List.drop_drop]
  rw [stepR_short _ 1 (by omega) (by rw [List.length_drop]; show _ < 2; omega)]
theorem rd_long (b : List UInt8) (h : 9 ≤ b.length) : rdR (b, 0) = (b.drop 9, 0) ∧ rdN (b, 0) = c9 b := by
  have s1 : stepR (b, 0) 1 = (b.drop 2, 0) := stepR_long b 1 (by omega) (by show 2 ≤ _; omega)
  have s2 : stepR (b.drop 2, 0) 0 = (b.drop 3, 0) := by rw [stepR_long _ 0 (by omega) (by rw [List.length_drop]; show 1 ≤ _; omega), show wid 0 = 1 from rfl, List.drop_drop]
  have s3 : stepR (b.drop 3, 0) 2 = (b.drop 7, 0) := by rw [stepR_long _ 2 (by omega) (by rw [List.length_drop]; show 4 ≤ _; omega), show wid 2 = 4 from rfl, List.drop_drop]
  have s4 : stepR (b.drop 7, 0) 1 = (b.drop 9, 0) := by rw [stepR_long _ 1 (by omega) (by rw [List.length_drop]; show 2 ≤ _; omega), show wid 1 = 2 from rfl, List.drop_drop]
  refine ⟨by unfold rdR; rw [s1, s2, s3, s4], ?_⟩
  unfold rdN c9
  rw [s1, s2, s3, numR_long b 1 (by omega) (by show 2 ≤ _; omega), numR_long _ 0 (by omega) (by rw [List.length_drop]; show 1 ≤ _; omega), numR_long _ 2 (by omega) (by rw [List.length_drop]; show 4 ≤ _; omega), numR_long _ 1 (by omega) (by rw [List.length_drop]; show 2 ≤ _; omega)]
  rfl
/-- What the document's Parse tells. -/
def dE (b : List UInt8) : Int := if b.length < 9 then 4 else if okC (c9 b) = true then 0 else 3
theorem rdE_is (b : List UInt8) : rdE (b, 0) = dE b := by
  unfold dE rdE
  by_cases h : b.length < 9
  · rw [if_pos h, rd_short b h, if_pos (by omega)]
  · rw [if_neg h, (rd_long b (by omega)).1, (rd_long b (by omega)).2, if_neg (by simp)]
theorem psE_is (b : List UInt8) : psE b = if dE b = 0 ∧ 9 < b.length then 3 else dE b := by
  unfold psE
  rw [rdE_is]
  by_cases h0 : dE b = 0
  · have h9 : 9 ≤ b.length := by
      by_cases h : b.length < 9
      · unfold dE at h0
        rw [if_pos h] at h0
        omega
      · omega
    rw [if_neg (by rw [h0]; simp), (rd_long b h9).1, List.length_drop]
    by_cases hl : 9 < b.length
    · rw [if_pos (by omega), if_pos ⟨h0, hl⟩]
    · rw [if_neg (by omega), if_neg (by omega), h0]
  · rw [if_pos h0, if_neg (by omega)]
theorem psC_is (b : List UInt8) : psC b = if dE b = 0 ∧ b.length = 9 then c9 b else clZ := by
  have hp := psE_is b
  unfold psC
  by_cases h0 : dE b = 0
  · have h9 : 9 ≤ b.length := by
      by_cases h : b.length < 9
      · unfold dE at h0
        rw [if_pos h] at h0
        omega
      · omega
    by_cases hl : 9 < b.length
    · rw [if_pos ⟨h0, hl⟩] at hp
      rw [hp, if_neg (by omega), if_neg (by omega)]
    · rw [if_neg (by omega), h0] at hp
      rw [if_pos hp, if_pos (by omega), (rd_long b h9).2]
  · rw [if_neg (by omega)] at hp
    rw [hp, if_neg h0, if_neg (by omega)]
/-- Nine bytes are the bytes of the claims that they are. -/
theorem clB_c9 (b : List UInt8) (h : b.length = 9) : clB (c9 b) = b := by
  have h1 := beN_val (b.take 2)
  have h2 := beN_val ((b.drop 2).take 1)
  have h3 := beN_val ((b.drop 3).take 4)
  have h4 := beN_val ((b.drop 7).take 2)
  rw [show (b.take 2).length = 2 by rw [List.length_take]; omega] at h1
  rw [show ((b.drop 2).take 1).length = 1 by rw [List.length_take, List.length_drop]; omega] at h2
  rw [show ((b.drop 3).take 4).length = 4 by rw [List.length_take, List.length_drop]; omega] at h3
  rw [show ((b.drop 7).take 2).length = 2 by rw [List.length_take, List.length_drop]; omega] at h4
  unfold clB c9
  simp only [Int.toNat_natCast]
  rw [h1, h2, h3, h4]
  have e7 : (b.drop 7).take 2 = b.drop 7 := List.take_of_length_le (by rw [List.length_drop]; omega)
  have e3 : (b.drop 3).take 4 ++ b.drop 7 = b.drop 3 := by
    have := List.take_append_drop 4 (b.drop 3)
    rw [List.drop_drop] at this
    exact this
  have e2 : (b.drop 2).take 1 ++ b.drop 3 = b.drop 2 := by
    have := List.take_append_drop 1 (b.drop 2)
    rw [List.drop_drop] at this
    exact this
  rw [e7, List.append_assoc, e3, List.append_assoc, e2, List.take_append_drop]
theorem val_at (n : Int) (k : Nat) (h0 : 0 ≤ n) (h : n < 256 ^ k) : ((valN (beN k n.toNat) : Nat) : Int) = n := by
  rw [valN_beN, Nat.mod_eq_of_lt]
  · omega
  · have h1 : (256 : Int) ^ k = ((256 ^ k : Nat) : Int) := by simp
    rw [h1] at h
    generalize 256 ^ k = q at h ⊢
    omega
theorem c9_clB (c : Cl) (more : List UInt8) (h : okC c = true) : c9 (clB c ++ more) = c := by
  obtain ⟨i, r, x, s⟩ := c
  have hh := (okC_iff i r x s).mp h
  have t1 : (clB ⟨i, r, x, s⟩ ++ more).take 2 = beN 2 i.toNat := by
    unfold clB
    rw [List.append_assoc, List.append_assoc, List.append_assoc, List.take_left' (beN_length _ _)]
  have d1 : (clB ⟨i, r, x, s⟩ ++ more).drop 2 = beN 1 r.toNat ++ (beN 4 x.toNat ++ (beN 2 s.toNat ++ more)) := by
    unfold clB
    rw [List.append_assoc, List.append_assoc, List.append_assoc, List.drop_left' (beN_length _ _)]
  have d2 : (clB ⟨i, r, x, s⟩ ++ more).drop 3 = beN 4 x.toNat ++ (beN 2 s.toNat ++ more) := by
    rw [show 3 = 2 + 1 from rfl, ← List.drop_drop, d1, List.drop_left' (beN_length _ _)]
  have d3 : (clB ⟨i, r, x, s⟩ ++ more).drop 7 = beN 2 s.toNat ++ more := by
    rw [show 7 = 3 + 4 from rfl, ← List.drop_drop, d2, List.drop_left' (beN_length _ _)]
  unfold c9
  rw [t1, d1, d2, d3, List.take_left' (beN_length _ _), List.take_left' (beN_length _ _), List.take_left' (beN_length _ _)]
  rw [val_at i 2 (by omega) (by omega), val_at r 1 (by omega) (by omega), val_at x 4 (by omega) (by omega), val_at s 2 (by omega) (by omega)]
theorem clB_more (c : Cl) (more : List UInt8) : (clB c ++ more).length = 9 + more.length := by rw [List.length_append, clB_length]
theorem dE_clB (c : Cl) (more : List UInt8) (h : okC c = true) : dE (clB c ++ more) = 0 := by
  unfold dE
  rw [if_neg (by rw [clB_more]; omega), c9_clB c more h, if_pos h]
theorem ps_clB (c : Cl) (h : okC c = true) : psE (clB c) = 0 ∧ psC (clB c) = c := by
  have e := dE_clB c [] h
  have e2 := c9_clB c [] h
  rw [List.append_nil] at e e2
  have hl := clB_length c
  refine ⟨by rw [psE_is, if_neg (by omega), e], by rw [psC_is, if_pos ⟨e, hl⟩, e2]⟩
theorem ps_clB0 (c : Cl) (h : okC c = true) : psE (clB c ++ [0]) = 3 := by
  rw [psE_is, if_pos ⟨dE_clB c [0] h, by rw [clB_more]; simp⟩]
theorem rd_clB (c : Cl) (more : List UInt8) (h : okC c = true) : rdE (clB c ++ more, 0) = 0 ∧ rdC (clB c ++ more, 0) = c ∧ rdR (clB c ++ more, 0) = (more, 0) := by
  have hl := clB_more c more
  have e : rdE (clB c ++ more, 0) = 0 := by rw [rdE_is, dE_clB c more h]
  refine ⟨e, ?_, ?_⟩
  · unfold rdC
    rw [if_pos e, (rd_long _ (by omega)).2, c9_clB c more h]
  · rw [(rd_long _ (by omega)).1, List.drop_left' (clB_length c)]
end Go.Proofs.YtiengbmnfbbgoaaDoor
