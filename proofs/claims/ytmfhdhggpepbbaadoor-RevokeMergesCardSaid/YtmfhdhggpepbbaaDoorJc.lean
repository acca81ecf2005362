/-
  Revocations: a set made of beginnings; two sets and a delta side by side.
-/
import Derived.Test.YtmfhdhggpepbbaaDoorJa
namespace Go.Proofs.YtmfhdhggpepbbaaDoor
open Go Go.RowKit
theorem rev_first0 {t : List Int} {m : L4} (h : m.a = []) (hs : ∀ x ∈ t, okS x = true) (hd : dupB t = false) (hl : t.length ≤ 256) : revL m 0 t = (0, { m with a := t }) := by
  have e : m.get 0 = [] := h
  have e2 : ∀ x, m.put 0 x = { m with a := x } := fun x => rfl
  unfold revL
  rw [if_pos ⟨by omega, by omega, allS_of hs⟩, e, List.nil_append, if_neg (by rw [hd]; decide), if_neg (by omega), e2]
theorem rev_first1 {t : List Int} {m : L4} (h : m.b = []) (hs : ∀ x ∈ t, okS x = true) (hd : dupB t = false) (hl : t.length ≤ 256) : revL m 1 t = (0, { m with b := t }) := by
  have e : m.get 1 = [] := h
  have e2 : ∀ x, m.put 1 x = { m with b := x } := fun x => rfl
  unfold revL
  rw [if_pos ⟨by omega, by omega, allS_of hs⟩, e, List.nil_append, if_neg (by rw [hd]; decide), if_neg (by omega), e2]
theorem rev_first2 {t : List Int} {m : L4} (h : m.c = []) (hs : ∀ x ∈ t, okS x = true) (hd : dupB t = false) (hl : t.length ≤ 256) : revL m 2 t = (0, { m with c := t }) := by
  have e : m.get 2 = [] := h
  have e2 : ∀ x, m.put 2 x = { m with c := x } := fun x => rfl
  unfold revL
  rw [if_pos ⟨by omega, by omega, allS_of hs⟩, e, List.nil_append, if_neg (by rw [hd]; decide), if_neg (by omega), e2]
theorem rev_first3 {t : List Int} {m : L4} (h : m.d = []) (hs : ∀ x ∈ t, okS x = true) (hd : dupB t = false) (hl : t.length ≤ 256) : revL m 3 t = (0, { m with d := t }) := by
  have e : m.get 3 = [] := h
  have e2 : ∀ x, m.put 3 x = { m with d := x } := fun x => rfl
  unfold revL
  rw [if_pos ⟨by omega, by omega, allS_of hs⟩, e, List.nil_append, if_neg (by rw [hd]; decide), if_neg (by omega), e2]
theorem vers_neq0 (a b c d : Int) (W : World) : (binOp BinOp.neq 39 (.agg #[.int .i64 a, .int .i64 b, .int .i64 c, .int .i64 d]) (.agg #[.int .i64 a, .int .i64 b, .int .i64 c, .int .i64 d])).run Tryd.prog W = .ok (.bool false) W := by
  have h := equalIn_ints (P := Tryd.prog) W 9998 39 3 4 Tryd.underlying39 Tryd.underlying3 i_size [a, b, c, d] [a, b, c, d] rfl rfl
  rw [show ([a, b, c, d] == [a, b, c, d]) = true by simp] at h
  rw [run_neq_struct]
  exact (congrArg (fun z => z.andThen fun b w' => Result.ok (Value.bool !b) w') h).trans rfl
theorem vers_self (a b c d : Int) (W : World) : (binOp BinOp.eql 39 (.agg #[.int .i64 a, .int .i64 b, .int .i64 c, .int .i64 d]) (.agg #[.int .i64 a, .int .i64 b, .int .i64 c, .int .i64 d])).run Tryd.prog W = .ok (.bool true) W := by
  have h := vers_eql a b c d a b c d W
  rwa [show ([a, b, c, d] == [a, b, c, d]) = true by simp] at h
/-- The state while half is made. -/
structure SH (w : World) (E D : Nat) (cs ds : Array Value) (u : VV) (dl l m : L4) (W : World) : Prop where
  k : KR w E [(D, .cells ds 41), (E, .cells cs 31)] W
  s : SetAt W (E + 1) l
  h : SetAt W (E + 2) m
  u : Rows4 W u dl
theorem SH.later {w : World} {E D : Nat} {cs ds : Array Value} {u : VV} {dl l m : L4} {W W1 : World} (h : SH w E D cs ds u dl l m W) (hb : Below W.heap.size W W1) : SH w E D cs ds u dl l m W1 := ⟨h.k.later hb, h.s.later hb, h.h.later hb, h.u.later hb⟩
theorem SH.half {w : World} {E D : Nat} {cs ds : Array Value} {u : VV} {dl l m m1 : L4} {W W1 : World} (h : SH w E D cs ds u dl l m W) (hg : W.grownBy W1 (some (E + 2))) (hs : SetAt W1 (E + 2) m1) (hD : E + 2 < D) : SH w E D cs ds u dl l m1 W1 :=
  ⟨h.k.grown hg (by omega) (fun x hx => by
    rcases List.mem_cons.1 hx with rfl | hx
    · exact Nat.ne_of_gt hD
    · rcases List.mem_cons.1 hx with rfl | hx
      · exact Nat.ne_of_lt (by simp)
      · cases hx), h.s.beside h.h hg (by omega), hs, h.u.beside h.h hg⟩
end Go.Proofs.YtmfhdhggpepbbaaDoor
