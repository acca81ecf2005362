/-
  Revocations: what was revoked stays so.
-/
import Derived.Test.YtnfgamekjbkbkaaDoorEo
import Derived.Lib.AppendZeros
import Derived.Test.YtnfgamekjbkbkaaDoorEv
namespace Go.Proofs.YtnfgamekjbkbkaaDoor
open Go Go.RowKit
/-- Each log of the first is the beginning of the second's. -/
structure Ext (l m : L4) : Prop where
  a : ∃ r, m.a = l.a ++ r
  b : ∃ r, m.b = l.b ++ r
  c : ∃ r, m.c = l.c ++ r
  d : ∃ r, m.d = l.d ++ r
theorem Ext.refl (l : L4) : Ext l l := ⟨⟨[], by simp⟩, ⟨[], by simp⟩, ⟨[], by simp⟩, ⟨[], by simp⟩⟩
theorem revL_good {l : L4} (hg : Good l) (n : Int) (m : List Int) : Good (revL l n m).2 := by
  unfold revL
  split
  · rename_i h0
    have hm := allS_in h0.2.2
    split
    · exact hg
    · split
      · exact hg
      · rename_i _ h2
        have hs := hg.s
        unfold L4.put L4.get at *
        split
        · rename_i h
          rw [if_pos h] at h2
          refine ⟨fun x hx => ?_, by simp only; omega, hg.b, hg.c, hg.d⟩
          simp only [List.mem_append] at hx
          rcases hx with (hx | hx) | hx | hx | hx
          · exact hs x (.inl hx)
          · exact hm x hx
          · exact hs x (.inr (.inl hx))
          · exact hs x (.inr (.inr (.inl hx)))
          · exact hs x (.inr (.inr (.inr hx)))
        · rename_i h
          rw [if_neg h] at h2
          split
          · rename_i h
            rw [if_pos h] at h2
            refine ⟨fun x hx => ?_, hg.a, by simp only; omega, hg.c, hg.d⟩
            simp only [List.mem_append] at hx
            rcases hx with hx | (hx | hx) | hx | hx
            · exact hs x (.inl hx)
            · exact hs x (.inr (.inl hx))
            · exact hm x hx
            · exact hs x (.inr (.inr (.inl hx)))
            · exact hs x (.inr (.inr (.inr hx)))
          · rename_i h
            rw [if_neg h] at h2
            split
            · rename_i h
              rw [if_pos h] at h2
              refine ⟨fun x hx => ?_, hg.a, hg.b, by simp only; omega, hg.d⟩
              simp only [List.mem_append] at hx
              rcases hx with hx | hx | (hx | hx) | hx
              · exact hs x (.inl hx)
              · exact hs x (.inr (.inl hx))
              · exact hs x (.inr (.inr (.inl hx)))
              · exact hm x hx
              · exact hs x (.inr (.inr (.inr hx)))
            · rename_i h
              rw [if_neg h] at h2
              refine ⟨fun x hx => ?_, hg.a, hg.b, hg.c, by simp only; omega⟩
              simp only [List.mem_append] at hx
              rcases hx with hx | hx | hx | hx | hx
              · exact hs x (.inl hx)
              · exact hs x (.inr (.inl hx))
              · exact hs x (.inr (.inr (.inl hx)))
              · exact hs x (.inr (.inr (.inr hx)))
              · exact hm x hx
  · exact hg
theorem apply_any (v : V4) (x : VV) (m l : L4) (p : Nat) (w : World) (hx : Rows4 w x m) (hm : Most m 1000) (hs : SetAt w p l) (hF : Full w) (hgl : 0 < w.heap.size) (hg : Good l) : Calls Tryd.prog 73 #[.pointer (some ⟨p, 0, none⟩), .agg (dC v x)] w fun e w' =>
    e = .returned (.tuple #[.int .i64 (applyL l v m).1, .int .i64 (applyL l v m).2.1]) ∧ SetAt w' p (applyL l v m).2.2 ∧ w.grownBy w' (some p) := by
  cases h0 : withinB v m
  · refine (apply_range v x m l p w hx hm hs hF hgl h0).mono ?_
    rintro e w' ⟨rfl, hb⟩
    have e1 : applyL l v m = (0, 10, l) := by unfold applyL; rw [if_neg (by rw [h0]; decide)]
    rw [e1]
    exact ⟨rfl, hs.later hb, kb_below _ hb⟩
  · cases h1 : covV l.ver v
    · refine (apply_old v x m l p w hx hm hs hF hgl h0 h1).mono ?_
      rintro e w' ⟨rfl, hb⟩
      have e1 : applyL l v m = (0, 9, l) := by unfold applyL; rw [if_pos h0, if_neg (by rw [h1]; decide)]
      rw [e1]
      exact ⟨rfl, hs.later hb, kb_below _ hb⟩
    · exact apply_in v x m l p w hx hm hs hF hgl hg h0 h1
end Go.Proofs.YtnfgamekjbkbkaaDoor
