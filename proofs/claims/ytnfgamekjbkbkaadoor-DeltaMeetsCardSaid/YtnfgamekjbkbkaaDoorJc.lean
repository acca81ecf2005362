/-
  Revocations: a set made of beginnings; two sets and a delta side by side.
-/
import Derived.Test.YtnfgamekjbkbkaaDoorJa
namespace Go.Proofs.YtnfgamekjbkbkaaDoor
open Go Go.RowKit
theorem rev_first0 {t : List Int} {m : L4} (h : m.a = []) (hs : ∀ x ∈ t, okS x = true) (hd : dupB t = false) (hl : t.length ≤ 256) : revL m 0 t = (0, { m with a := t }) := by
  have e : m.get 0 = [] := h
  have e2 : ∀ x, m.put 0 x = { m with a := x } := fun x => rfl
  unfold revL
  rw [if_pos ⟨by omega, by omega, allS_of hs⟩, e, List.nil_append, if_neg (by rw [hd]; decide), if_neg (by omega), e2]
theorem rev_first1 {t : List Int} {m : L4} (h : m.b = []) (hs : ∀ x ∈ t, okS x = true) (hd : dupB t = false) (hl : t.length ≤ 256) : revL m 1 t = (0, { m with b := t }) := by
  have e : m.get 1 = [] := h
  have e2 : ∀ x, m.put 1 x = { m with b := x } := fun x => rfl
  unfold revL
  rw [if_pos ⟨by omega, by omega, allS_of hs⟩, e, List.nil_append, if_neg (by rw [hd]; decide), if_neg (by omega), e2]
theorem rev_first2 {t : List Int} {m : L4} (h : m.c = []) (hs : ∀ x ∈ t, okS x = true) (hd : dupB t = false) (hl : t.length ≤ 256) : revL m 2 t = (0, { m with c := t }) := by
  have e : m.get 2 = [] := h
  have e2 : ∀ x, m.put 2 x = { m with c := x } := fun x => rfl
  unfold revL
  rw [if_pos ⟨by omega, by omega, allS_of hs⟩, e, List.nil_append, if_neg (by rw [hd]; decide), if_neg (by omega), e2]
theorem rev_first3 {t : List Int} {m : L4} (h : m.d = []) (hs : ∀ x ∈ t, okS x = true) (hd : dupB t = false) (hl : t.length ≤ 256) : revL m 3 t = (0, { m with d := t }) := by
  have e : m.get 3 = [] := h
  have e2 : ∀ x, m.put 3 x = { m with d := x } := fun x => rfl
  unfold revL
  rw [if_pos ⟨by omega, by omega, allS_of hs⟩, e, List.nil_append, if_neg (by rw [hd]; decide), if_neg (by omega), e2]
/-- The state while half is made. -/
structure SH (w : World) (E D : Nat) (cs ds : Array Value) (u : VV) (dl l m : L4) (W : World) : Prop where
  k : KR w E [(D, .cells ds 30), (E, .cells cs 22)] W
  s : SetAt W (E + 1) l
  h : SetAt W (E + 2) m
  u : Rows4 W u dl
theorem SH.later {w : World} {E D : Nat} {cs ds : Array Value} {u : VV} {dl l m : L4} {W W1 : World} (h : SH w E D cs ds u dl l m W) (hb : Below W.heap.size W W1) : SH w E D cs ds u dl l m W1 := ⟨h.k.later hb, h.s.later hb, h.h.later hb, h.u.later hb⟩
end Go.Proofs.YtnfgamekjbkbkaaDoor
