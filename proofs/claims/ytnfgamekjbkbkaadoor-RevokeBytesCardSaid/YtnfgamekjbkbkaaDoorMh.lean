/-
  Revocations: what is read of a delta's own bytes; the document's reading.
-/
import Derived.Test.YtnfgamekjbkbkaaDoorMd
import Derived.Test.YtnfgamekjbkbkaaDoorMe
namespace Go.Proofs.YtnfgamekjbkbkaaDoor
open Go Go.RowKit
theorem rd_two (n : Int) (rest : List UInt8) (h0 : 0 ≤ n) (h1 : n ≤ 65535) : stepR (beN 2 n.toNat ++ rest, 0) 1 = (rest, 0) ∧ numR (beN 2 n.toNat ++ rest, 0) 1 = n := by
  have hw : wid 1 = 2 := by decide
  have hl : (beN 2 n.toNat).length = 2 := beN_length _ _
  have hle : wid 1 ≤ (beN 2 n.toNat ++ rest).length := by rw [hw, List.length_append, hl]; omega
  rw [stepR_long _ 1 (by omega) hle, numR_long _ 1 (by omega) hle, hw]
  refine ⟨?_, ?_⟩
  · rw [List.drop_append_of_le_length (by omega), List.drop_of_length_le (by omega)]
    rfl
  · rw [List.take_append_of_le_length (by omega), List.take_of_length_le (by omega)]
    exact val_at n 2 h0 (by omega)
theorem takeR_back : ∀ (l : List Int) (rest : List UInt8) (acc : List Int), (∀ n ∈ l, okS n = true) → takeR l.length (be2s l ++ rest, 0) acc = (acc ++ l, (rest, 0)) := by
  intro l
  induction l with
  | nil => intro rest acc _; simp [takeR, be2s]
  | cons x l ih =>
    intro rest acc h
    have hx : 0 ≤ x ∧ x ≤ 65535 := by
      have := h x (.head _)
      unfold okS at this
      rw [Bool.and_eq_true, decide_eq_true_iff, decide_eq_true_iff] at this
      omega
    have he : be2s (x :: l) ++ rest = beN 2 x.toNat ++ (be2s l ++ rest) := by unfold be2s; simp
    have h2 := rd_two x (be2s l ++ rest) hx.1 hx.2
    rw [he, List.length_cons]
    unfold takeR
    rw [if_pos rfl, h2.1, h2.2, ih rest (acc ++ [x]) (fun n hn => h n (.tail _ hn))]
    simp
theorem logR_back (l : List Int) (rest : List UInt8) (h : ∀ n ∈ l, okS n = true) (hl : l.length ≤ 65535) : logR (logB l ++ rest, 0) = (l, (rest, 0)) := by
  have he : logB l ++ rest = beN 2 (l.length : Int).toNat ++ (be2s l ++ rest) := by unfold logB; simp
  have h2 := rd_two (l.length : Int) (be2s l ++ rest) (by omega) (by omega)
  unfold logR
  rw [he, h2.1, h2.2, Int.toNat_natCast, takeR_back l rest [] h]
  simp
theorem sec_back (n : Int) (l : List Int) (rest : List UInt8) (h0 : 0 ≤ n) (h1 : n ≤ 256) (h : ∀ n ∈ l, okS n = true) (hl : l.length ≤ 256) : numR ((beN 2 n.toNat ++ logB l) ++ rest, 0) 1 = n ∧ logR (stepR ((beN 2 n.toNat ++ logB l) ++ rest, 0) 1) = (l, (rest, 0)) := by
  rw [List.append_assoc]
  have h2 := rd_two n (logB l ++ rest) h0 (by omega)
  rw [h2.1, h2.2]
  exact ⟨rfl, logR_back l rest h (by omega)⟩
/-- What is read of a delta's own bytes is the delta. -/
theorem pa_back (v : V4) (l : L4) (hw : withinB v l = true) (hm : Most l 256) : paE (dlB v l) = 0 ∧ paV (dlB v l) = v ∧ paL (dlB v l) = l := by
  have hi := (within_iff v l).1 hw
  have e : (dlB v l, (0 : Int)) = ((beN 2 v.a.toNat ++ logB l.a) ++ ((beN 2 v.b.toNat ++ logB l.b) ++ ((beN 2 v.c.toNat ++ logB l.c) ++ ((beN 2 v.d.toNat ++ logB l.d) ++ []))), (0 : Int)) := by
    unfold dlB
    simp only [List.append_assoc, List.append_nil]
  have sa := sec_back v.a l.a ((beN 2 v.b.toNat ++ logB l.b) ++ ((beN 2 v.c.toNat ++ logB l.c) ++ ((beN 2 v.d.toNat ++ logB l.d) ++ []))) hi.1.1.1 hi.1.1.2 (List.all_eq_true.1 hi.2.1) hm.a
  have sb := sec_back v.b l.b ((beN 2 v.c.toNat ++ logB l.c) ++ ((beN 2 v.d.toNat ++ logB l.d) ++ [])) hi.1.2.1.1 hi.1.2.1.2 (List.all_eq_true.1 hi.2.2.1) hm.b
  have sc := sec_back v.c l.c ((beN 2 v.d.toNat ++ logB l.d) ++ []) hi.1.2.2.1.1 hi.1.2.2.1.2 (List.all_eq_true.1 hi.2.2.2.1) hm.c
  have sd := sec_back v.d l.d [] hi.1.2.2.2.1 hi.1.2.2.2.2 (List.all_eq_true.1 hi.2.2.2.2) hm.d
  have hV : dlV (dlB v l, 0) = v := by
    unfold dlV nx8
    rw [e, sa.2, sb.2, sc.2, sa.1, sb.1, sc.1, sd.1]
  have hL : dlL (dlB v l, 0) = l := by
    unfold dlL nx8
    rw [e, sa.2, sb.2, sc.2, sd.2]
  have hS : dlS (dlB v l, 0) = ([], 0) := by
    unfold dlS nx8
    rw [e, sa.2, sb.2, sc.2, sd.2]
  have hE : paE (dlB v l) = 0 := by
    unfold paE
    rw [hS, hV, hL, hw]
    simp [endE]
  unfold paV paL
  rw [hE, hV, hL]
  exact ⟨rfl, rfl, rfl⟩
/-- The document's reading: what fails is not kept. -/
def lawR : Nat → List UInt8 × Int → List Int → List Int × (List UInt8 × Int)
  | 0, p, l => (l, p)
  | m + 1, p, l => if p.2 = 0 then lawR m (stepR p 1) (if (stepR p 1).2 = 0 then l ++ [numR p 1] else l) else (l, p)
theorem lawR_same : ∀ (m : Nat) (p : List UInt8 × Int) (l1 l2 : List Int), (lawR m p l1).2 = (takeR m p l2).2 ∧ ((takeR m p l2).2.2 = 0 → p.2 = 0 → l1 = l2 → (lawR m p l1).1 = (takeR m p l2).1) := by
  intro m
  induction m with
  | zero => intro p l1 l2; exact ⟨rfl, fun _ _ h => h⟩
  | succ m ih =>
    intro p l1 l2
    unfold lawR takeR
    by_cases h : p.2 = 0
    · rw [if_pos h, if_pos h]
      refine ⟨(ih _ _ _).1, fun h1 _ h2 => ?_⟩
      by_cases h3 : (stepR p 1).2 = 0
      · rw [if_pos h3]
        exact (ih _ _ _).2 h1 h3 (by rw [h2])
      · exfalso
        have h6 : takeR m (stepR p 1) (l2 ++ [numR p 1]) = (l2 ++ [numR p 1], stepR p 1) := by
          cases m with
          | zero => rfl
          | succ m => unfold takeR; rw [if_neg h3]
        rw [h6] at h1
        exact h3 h1
    · rw [if_neg h, if_neg h]
      exact ⟨rfl, fun _ h1 => absurd h1 h⟩
def logW (p : List UInt8 × Int) : List Int × (List UInt8 × Int) := lawR (numR p 1).toNat (stepR p 1) []
theorem logW_state (p : List UInt8 × Int) : (logW p).2 = (logR p).2 := (lawR_same _ _ _ _).1
theorem stuckR (m : Nat) (p : List UInt8 × Int) (l : List Int) (h : p.2 ≠ 0) : (takeR m p l).2 = p := by
  cases m with
  | zero => rfl
  | succ m => unfold takeR; rw [if_neg h]
theorem logR_stuck (p : List UInt8 × Int) (h : p.2 ≠ 0) : (logR p).2 = p := by
  have hs : stepR p 1 = p := stepR_bad p.1 p.2 1 h
  unfold logR
  rw [hs]
  exact stuckR _ _ _ h
theorem logR_short (p : List UInt8 × Int) (h : (stepR p 1).2 ≠ 0) : (logR p).2 = stepR p 1 := stuckR _ _ _ h
theorem logW_same (p : List UInt8 × Int) (h : (logR p).2.2 = 0) : (logW p).1 = (logR p).1 := by
  have h1 : (stepR p 1).2 = 0 := by
    rcases Decidable.em ((stepR p 1).2 = 0) with h1 | h1
    · exact h1
    · rw [logR_short p h1] at h
      exact absurd h h1
  exact (lawR_same _ _ _ _).2 h h1 rfl
end Go.Proofs.YtnfgamekjbkbkaaDoor
