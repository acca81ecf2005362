/-
  Keys: a key is made, copied, asked for its bytes, and whether it is blank.
-/
import Derived.Test.YtdionedinmkeiaaDoorAb
namespace Go.Proofs.YtdionedinmkeiaaDoor
open Go Go.RowKit
set_option maxRecDepth 100000 in
set_option maxHeartbeats 400000 in
theorem copied_any (bs : List UInt8) (v : Value) (w : World) (hv : Bytes w v bs) (hl : bs.length ≤ 140737488355328) :
    Calls Tryd.prog 34 #[v] w fun e w' => ∃ v', e = .returned v' ∧ OwnB w' w.heap.size v' bs ∧ Below w.heap.size w w' := by
  have HV := Bx.mk hv
  have HL := Bx.mk hl
  clear hv hl
  go_enter Tryd.func34, Tryd.ntmps34
  go_wp2_with (refine wpList_apT 66 Tryd.underlying66 rfl _ _ rfl w.heap.size _ [] (by rfl) (OwnB.nil _ _) _ bs (by rfl) HV.out (by have := HL.out; simp; omega) (Nat.le_refl _) ?_; intro v1 w1 h1 g1 _; have H1 : Bx (OwnB w1 w.heap.size v1 bs ∧ Below w.heap.size w w1) := Bx.mk ⟨h1, own_below (OwnB.nil _ _) g1 (Nat.le_refl _)⟩; clear h1 g1)
  go_ret
  exact ⟨v1, rfl, H1.out⟩
/-- A key that has its own bytes, none of it older than base. -/
def KeyO (w : World) (base : Nat) (v : Value) (bs : List UInt8) : Prop :=
  ∃ p s, v = .pointer (some ⟨p, 0, none⟩) ∧ base ≤ p ∧ w.heap[p]? = some (.cells #[s] 69 (0, 0)) ∧ OwnB w base s bs
/-- A key. -/
def IsKey (w : World) (v : Value) (bs : List UInt8) : Prop :=
  ∃ p s, v = .pointer (some ⟨p, 0, none⟩) ∧ w.heap[p]? = some (.cells #[s] 69 (0, 0)) ∧ Bytes w s bs
theorem KeyO.key {w : World} {base : Nat} {v : Value} {bs : List UInt8} (h : KeyO w base v bs) : IsKey w v bs := by
  obtain ⟨p, s, hv, _, hr, ho⟩ := h
  exact ⟨p, s, hv, hr, ho.bytes⟩
theorem KeyO.weak {w : World} {base base' : Nat} {v : Value} {bs : List UInt8} (h : KeyO w base v bs) (hb : base' ≤ base) : KeyO w base' v bs := by
  obtain ⟨p, s, hv, hp, hr, h1, h2⟩ := h
  refine ⟨p, s, hv, by omega, hr, h1, ?_⟩
  rcases h2 with h0 | ⟨g, cap, cur, hv', hb', hg, hr'⟩
  · exact .inl h0
  · exact .inr ⟨g, cap, cur, hv', by omega, hg, hr'⟩
theorem IsKey.later {w w1 : World} {v : Value} {bs : List UInt8} (h : IsKey w v bs) (hb : Below w.heap.size w w1) : IsKey w1 v bs := by
  obtain ⟨p, s, hv, hr, ho⟩ := h
  exact ⟨p, s, hv, by rw [hb.block _ (Array.getElem?_eq_some_iff.1 hr).1]; exact hr, ho.later hb⟩
theorem KeyO.later {w w1 : World} {base : Nat} {v : Value} {bs : List UInt8} (h : KeyO w base v bs) (hb : Below w.heap.size w w1) : KeyO w1 base v bs := by
  obtain ⟨p, s, hv, hp, hr, ho⟩ := h
  exact ⟨p, s, hv, hp, by rw [hb.block _ (Array.getElem?_eq_some_iff.1 hr).1]; exact hr, ho.later hb (fun g hg => (ho.lt g hg).1)⟩
set_option maxRecDepth 100000 in
set_option maxHeartbeats 400000 in
theorem new_any (bs : List UInt8) (v : Value) (w : World) (hv : Bytes w v bs) (hl : bs.length ≤ 140737488355328) :
    Calls Tryd.prog 7 #[v] w fun e w' => ∃ v', e = .returned v' ∧ KeyO w' w.heap.size v' bs ∧ Below w.heap.size w w' := by
  have HV := Bx.mk hv
  have HL := Bx.mk hl
  obtain ⟨a, cap, rfl, -⟩ := hv
  obtain ⟨n, hn⟩ : ∃ n, bs.length = n := ⟨_, rfl⟩
  rw [hn] at HV ⊢
  clear hn hl
  go_enter Tryd.func7, Tryd.ntmps7
  go_wp2_with fail
  refine (copied_any bs _ w HV.out HL.out).mono ?_
  rintro e w1 ⟨v1, rfl, ho, hb⟩
  have H1 := Bx.mk (And.intro ho hb)
  obtain ⟨a1, c1, rfl, -⟩ := ho.bytes
  clear ho hb
  go_wp2
  go_ret
  refine ⟨_, rfl, ⟨_, _, rfl, H1.out.2.size, by rw [hnew _ _ _ rfl], ?_⟩, H1.out.2.alloc H1.out.2.size _⟩
  exact H1.out.1.later (below_a _) (fun g hg => (H1.out.1.lt g hg).1)
set_option maxRecDepth 100000 in
set_option maxHeartbeats 400000 in
theorem kbytes_any (bs : List UInt8) (v : Value) (w : World) (hv : IsKey w v bs) (hl : bs.length ≤ 140737488355328) :
    Calls Tryd.prog 15 #[v] w fun e w' => ∃ v', e = .returned v' ∧ OwnB w' w.heap.size v' bs ∧ Below w.heap.size w w' := by
  obtain ⟨p, s, rfl, hr, hv⟩ := hv
  have HV := Bx.mk hv
  have HL := Bx.mk hl
  have hc : w.cell? ⟨p, 0, none⟩ = some s := by rw [cell_of_row _ _ _ _ _ _ hr]; rfl
  obtain ⟨a, cap, rfl, -⟩ := hv
  obtain ⟨n, hn⟩ : ∃ n, bs.length = n := ⟨_, rfl⟩
  rw [hn] at HV hc
  clear hn hl hr
  go_enter Tryd.func15, Tryd.ntmps15
  go_wp2_with fail
  refine (copied_any bs _ w HV.out HL.out).mono ?_
  rintro e w1 ⟨v1, rfl, ho, hb⟩
  have H1 := Bx.mk (And.intro ho hb)
  clear ho hb
  go_wp2
  go_ret
  exact ⟨_, rfl, H1.out⟩
theorem kbytes_nil (w : World) : Calls Tryd.prog 15 #[.pointer none] w fun e w' => e = .returned (.slice none 0 0) ∧ w = w' := by
  go_enter Tryd.func15, Tryd.ntmps15
  go_wp2
  go_ret
  exact ⟨rfl, rfl⟩
/-- What bytes say together. -/
def ors (l : List UInt8) : Nat → UInt8
  | 0 => 0
  | k + 1 => ors l k ||| l.getD k 0
theorem or8_zero (a b : UInt8) : a ||| b = 0 ↔ a = 0 ∧ b = 0 := by
  constructor
  · intro h
    have h' := congrArg UInt8.toBitVec h
    rw [UInt8.toBitVec_or] at h'
    have h2 : a.toBitVec ||| b.toBitVec = 0#8 := h'
    exact ⟨UInt8.eq_of_toBitVec_eq (BitVec.or_eq_zero_iff.1 h2).1, UInt8.eq_of_toBitVec_eq (BitVec.or_eq_zero_iff.1 h2).2⟩
  · rintro ⟨rfl, rfl⟩; rfl
theorem ors_zero (l : List UInt8) (k : Nat) : ors l k = 0 ↔ ∀ i, i < k → l.getD i 0 = 0 := by
  induction k with
  | zero => simp [ors]
  | succ k ih =>
    rw [ors, or8_zero, ih]
    constructor
    · rintro ⟨h1, h2⟩ i hi
      by_cases h : i = k
      · rw [h]; exact h2
      · exact h1 i (by omega)
    · intro h
      exact ⟨fun i hi => h i (by omega), h k (by omega)⟩
/-- Whether all bytes are 0. -/
def blankB (l : List UInt8) : Bool := l.all (· == 0)
theorem ors_all (l : List UInt8) (n : Nat) (h : l.length = n) : (ub (ors l n) == 0) = blankB l := by
  unfold blankB
  rw [Bool.eq_iff_iff]
  simp only [beq_iff_eq, List.all_eq_true]
  constructor
  · intro h'
    have h0 : ors l n = 0 := ub_inj h'
    rw [ors_zero] at h0
    intro x hx
    obtain ⟨i, hi, rfl⟩ := List.getElem_of_mem hx
    have := h0 i (by omega)
    simpa [hi] using this
  · intro h'
    have h0 : ors l n = 0 := (ors_zero l n).2 fun i hi => by
      have hi' : i < l.length := by omega
      have := h' (l[i]) (List.getElem_mem hi')
      simp [hi', this]
    rw [h0]; rfl
end Go.Proofs.YtdionedinmkeiaaDoor
