/-
  DeltaAnswers: the head, and what lies behind it.
-/
import Derived.Test.YtnfgamekjbkbkaaDoorNk
namespace Go.Proofs.YtnfgamekjbkbkaaDoor
open Go Go.RowKit
theorem splitA8 : restAt9 Tryd.f5.body 4 = .seq (partAt9 Tryd.f5.body 8) (restAt9 Tryd.f5.body 8) := by kernel_rfl
theorem splitA9 : restAt9 Tryd.f5.body 8 = .seq (partAt9 Tryd.f5.body 9) (restAt9 Tryd.f5.body 9) := by kernel_rfl
/-- The frame behind what is asked and answered. -/
structure PK9 (v2 v4 v7 v8 v9 v10 v11 v12 : Value) (a : Act) : Prop where
  fr : Fr 135 a
  s2 : a.eval (.tmp 2) = v2
  s4 : a.eval (.tmp 4) = v4
  s7 : a.eval (.tmp 7) = v7
  s8 : a.eval (.tmp 8) = v8
  s9 : a.eval (.tmp 9) = v9
  s10 : a.eval (.tmp 10) = v10
  s11 : a.eval (.tmp 11) = v11
  s12 : a.eval (.tmp 12) = v12
set_option maxRecDepth 100000 in
set_option maxHeartbeats 4000000 in
theorem reg4 (E D M pp qq : Nat) (v2 v10 : Value) (b : Bool) (a : Act) (W : World) (h : PK9 v2 (.pointer (some ⟨E + 1, 0, none⟩)) (.pointer (some ⟨pp, 0, none⟩)) (.pointer (some ⟨qq, 0, none⟩)) (.pointer (some ⟨D, 0, none⟩)) v10 (.pointer (some ⟨M, 0, none⟩)) (.bool b) a) :
    Code.wp Tryd.prog (partAt9 Tryd.f5.body 4) (fun x a' w' => x = .normal ∧ PI9 v2 (.pointer (some ⟨E + 1, 0, none⟩)) (.pointer (some ⟨pp, 0, none⟩)) (.pointer (some ⟨qq, 0, none⟩)) (.pointer (some ⟨D, 0, none⟩)) v10 (.pointer (some ⟨M, 0, none⟩)) (.bool b) (.bool false) a' ∧ w' = W) a W := by
  obtain ⟨y, rfl, hy⟩ := open135 h.fr
  have e2 := (hy 2).symm.trans h.s2
  have e4 := (hy 4).symm.trans h.s4
  have e7 := (hy 7).symm.trans h.s7
  have e8 := (hy 8).symm.trans h.s8
  have e9 := (hy 9).symm.trans h.s9
  have e10 := (hy 10).symm.trans h.s10
  have e11 := (hy 11).symm.trans h.s11
  have e12 := (hy 12).symm.trans h.s12
  clear h hy
  rw [e2, e4, e7, e8, e9, e10, e11, e12]
  clear e2 e4 e7 e8 e9 e10 e11 e12
  conv => arg 2; whnf
  go_wp2
  exact ⟨⟨rfl, rfl⟩, rfl, rfl, rfl, rfl, rfl, rfl, rfl, rfl, rfl⟩
theorem tail9 {Q : Exit → Act → World → Prop} (E D M pp qq : Nat) (v2 v10 : Value) (v : V4) (l : L4) (a : Act) (W : World) (h : PI9 v2 (.pointer (some ⟨E + 1, 0, none⟩)) (.pointer (some ⟨pp, 0, none⟩)) (.pointer (some ⟨qq, 0, none⟩)) (.pointer (some ⟨D, 0, none⟩)) v10 (.pointer (some ⟨M, 0, none⟩)) (.bool !covV l.ver v) (.bool false) a) (hE : W.heap[E + 1]? = some (.cells #[.int .i64 v.a, .int .i64 v.b, .int .i64 v.c, .int .i64 v.d] 22)) (hM : W.heap[M]? = some (.cells #[.int .i64 (askV l.ver v).a, .int .i64 (askV l.ver v).b, .int .i64 (askV l.ver v).c, .int .i64 (askV l.ver v).d] 28)) (hs : SetAt W pp l) (hq : RAt W qq l)
    (hend : ∀ a' w', PJ v2 (.pointer (some ⟨E + 1, 0, none⟩)) (.pointer (some ⟨pp, 0, none⟩)) (.pointer (some ⟨qq, 0, none⟩)) (.pointer (some ⟨D, 0, none⟩)) v10 a' → Below W.heap.size W w' → Code.wp Tryd.prog (restAt9 Tryd.f5.body 9) Q a' w') :
    Code.wp Tryd.prog (restAt9 Tryd.f5.body 4) Q a W := by
  rw [splitA8]
  refine wp_seq (wp_mono (reg8 E D M pp qq v2 v10 v l (!covV l.ver v) a W h hE hq) ?_)
  rintro x a1 w1 ⟨rfl, h1, hb⟩
  show Code.wp Tryd.prog (restAt9 Tryd.f5.body 8) _ a1 w1
  rw [splitA9]
  have hM1 := (hb.block M (Array.getElem?_eq_some_iff.1 hM).1).trans hM
  have hs1 := hs.later hb
  have hk : Code.wp Tryd.prog (partAt9 Tryd.f5.body 9) (fun x a' w' => x = .normal ∧ PJ v2 (.pointer (some ⟨E + 1, 0, none⟩)) (.pointer (some ⟨pp, 0, none⟩)) (.pointer (some ⟨qq, 0, none⟩)) (.pointer (some ⟨D, 0, none⟩)) v10 a' ∧ Below w1.heap.size w1 w') a1 w1 := by
    unfold askV at hM1
    cases hc : covV l.ver v with
    | true =>
      rw [hc] at h1 hM1
      exact reg9f E D M pp qq v2 v10 l a1 w1 h1 hM1 hs1
    | false =>
      rw [hc] at h1 hM1
      exact reg9t E D M pp qq v2 v10 l a1 w1 h1 hM1 hs1
  refine wp_seq (wp_mono hk ?_)
  rintro x a2 w2 ⟨rfl, h2, hb2⟩
  exact hend a2 w2 h2 (hb.trans (hb2.mono hb.size))
end Go.Proofs.YtnfgamekjbkbkaaDoor
