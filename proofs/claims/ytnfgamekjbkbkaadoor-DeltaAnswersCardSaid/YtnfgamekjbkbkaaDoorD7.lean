/-
  Delta: a digest's bytes.
-/
import Derived.Test.YtnfgamekjbkbkaaDoorD6
import Derived.Test.YtnfgamekjbkbkaaDoorJb
namespace Go.Proofs.YtnfgamekjbkbkaaDoor
open Go Go.RowKit
theorem ub_range (x : UInt8) : 0 ≤ ub x ∧ ub x ≤ 255 := by
  unfold ub
  have := x.toNat_lt
  omega
theorem beN_byte (x : UInt8) : beN 1 (ub x).toNat = [x] := by
  unfold beN ub
  simp [beN]
theorem put_one1 (l : List UInt8) (x : UInt8) (hl : l.length + 1 ≤ 1024) : putS (l, 0) (fNum 0 (ub x)) = (l ++ [x], 0) := by
  have h := ub_range x
  have hc : chk (fNum 0 (ub x)) = 0 := by
    unfold chk fNum most
    simp only
    rw [if_neg (by omega), if_neg (by omega), if_neg (by simp; omega)]
  have he : enc (fNum 0 (ub x)) = [x] := by
    unfold enc fNum
    simp only
    rw [if_neg (by omega)]
    exact beN_byte x
  unfold putS
  simp only
  rw [if_neg (by simp), if_neg (by rw [hc]; simp), if_neg (by rw [he]; simp; omega), he]
/-- What stays while a digest is written. -/
structure DW (w : World) (E q : Nat) (v : V4) (p : B8) (bs : List UInt8) (W : World) : Prop where
  kr : KR w E [(E, .cells #[.int .i64 v.a, .int .i64 v.b, .int .i64 v.c, .int .i64 v.d, .int .u8 (ub p.a), .int .u8 (ub p.b), .int .u8 (ub p.c), .int .u8 (ub p.d), .int .u8 (ub p.e), .int .u8 (ub p.f), .int .u8 (ub p.g), .int .u8 (ub p.h)] 62)] W
  wr : IsW W q (bs, 0)
  lt : E < q
theorem DW.put {w : World} {E q : Nat} {v : V4} {p : B8} {bs bs' : List UInt8} {W W1 : World} (h : DW w E q v p bs W) (hg : W.grownBy W1 (some q)) (hw : IsW W1 q (bs', 0)) : DW w E q v p bs' W1 :=
  ⟨h.kr.grown hg (by have := h.lt; omega) (by intro y hy; have := h.lt; simp at hy; subst hy; simp; omega), hw, h.lt⟩
theorem DW.later {w : World} {E q : Nat} {v : V4} {p : B8} {bs : List UInt8} {W W1 : World} (h : DW w E q v p bs W) (hb : Below W.heap.size W W1) : DW w E q v p bs W1 := ⟨h.kr.later hb, h.wr.later hb h.wr.lt, h.lt⟩
theorem DW.one {w : World} {E q : Nat} {v : V4} {p : B8} {bs : List UInt8} {W : World} (h : DW w E q v p bs W) (x : UInt8) (hl : bs.length + 1 ≤ 1024) (T : TypeId) :
    Calls Tryd.prog 49 #[.pointer (some ⟨q, 0, none⟩), .int .i64 0, .slice (some ⟨W.heap.size, 0, none⟩) 1 1] (W.alloc (.cells #[.int .i64 (ub x)] T)) fun e w' => e = .returned (.pointer (some ⟨q, 0, none⟩)) ∧ DW w E q v p (bs ++ [x]) w' := by
  have h' := h.later (below_a (.cells #[.int .i64 (ub x)] T))
  have hx := ub_range x
  refine (wnum_any 0 [ub x] _ q (bs, 0) _ h'.wr (ints_one W q (ub x) T h.wr.lt) (by intro m hm; simp at hm; subst hm; omega) (by simp)).mono ?_
  rintro e w' ⟨rfl, hw, hg⟩
  rw [show ([ub x].map (fNum 0)).foldl putS (bs, 0) = putS (bs, 0) (fNum 0 (ub x)) from rfl, put_one1 bs x hl] at hw
  exact ⟨rfl, h'.put hg hw⟩
theorem DW.four {w : World} {E q : Nat} {v : V4} {p : B8} {W : World} (h : DW w E q v p [] W) (hv : okV v = true) :
    Calls Tryd.prog 49 #[.pointer (some ⟨q, 0, none⟩), .int .i64 1, .slice (some ⟨E, 0, none⟩) 4 4] W fun e w' => e = .returned (.pointer (some ⟨q, 0, none⟩)) ∧ DW w E q v p (((beN 2 v.a.toNat ++ beN 2 v.b.toNat) ++ beN 2 v.c.toNat) ++ beN 2 v.d.toNat) w' := by
  obtain ⟨⟨a1, a2⟩, ⟨b1, b2⟩, ⟨c1, c2⟩, d1, d2⟩ := (okV_iff v).1 hv
  have hN : IntsN W q (.slice (some ⟨E, 0, none⟩) 4 4) [v.a, v.b, v.c, v.d] := ⟨_, _, rfl, Nat.le_refl _, fun _ => ⟨E, 0, rfl, by have := h.lt; omega, fun i hi => by
    rw [cell_of_row _ _ _ _ _ _ (h.kr.rows _ (.head _))]
    rcases four_nat hi with rfl | rfl | rfl | rfl <;> rfl⟩⟩
  refine (wnum_any 1 [v.a, v.b, v.c, v.d] _ q ([], 0) _ h.wr hN (by intro m hm; simp at hm; rcases hm with rfl | rfl | rfl | rfl <;> omega) (by simp)).mono ?_
  rintro e w' ⟨rfl, hw, hg⟩
  rw [show ([v.a, v.b, v.c, v.d].map (fNum 1)).foldl putS ([], 0) = putS (putS (putS (putS ([], 0) (fNum 1 v.a)) (fNum 1 v.b)) (fNum 1 v.c)) (fNum 1 v.d) from rfl, put_one2 [] v.a a1 (by omega) (by simp), put_one2 _ v.b b1 (by omega) (by simp [beN_length]), put_one2 _ v.c c1 (by omega) (by simp [beN_length]), put_one2 _ v.d d1 (by omega) (by simp [beN_length]), List.nil_append] at hw
  exact ⟨rfl, h.put hg hw⟩
end Go.Proofs.YtnfgamekjbkbkaaDoor
