/-
  Revocations: what a seed revoked.
-/
import Derived.Test.YtmfhdhggpepbbaaDoorEh
namespace Go.Proofs.YtmfhdhggpepbbaaDoor
open Go Go.RowKit
def logL (l : L4) (n : Int) : List Int := if 0 ≤ n ∧ n < 4 then l.get n else []
theorem SetV.ptr {W : World} {v : Value} {l : L4} (h : SetV W v l) : ∃ pt, v = .pointer pt := by
  rcases h with ⟨rfl, -⟩ | ⟨p, rfl, -⟩
  · exact ⟨_, rfl⟩
  · exact ⟨_, rfl⟩
theorem log_out (n : Int) (pt : Option Addr) (w : World) (hn : ¬ (0 ≤ n ∧ n < 4)) : Calls Tryd.prog 24 #[.pointer pt, .int .i64 n] w fun e w' => e = .returned (.slice none 0 0) ∧ w' = w := by
  have HS := Bx.mk (isSeed_out n hn w)
  clear hn
  go_enter Tryd.func24, Tryd.ntmps24
  go_wp2_with fail
  refine HS.out.mono ?_
  rintro e w1 ⟨rfl, rfl⟩
  go_wp2
  go_ret
  exact ⟨rfl, rfl⟩
set_option maxRecDepth 100000 in
theorem log_0 (v : Value) (l : L4) (w : World) (hv : SetV w v l) (hl : l.a.length ≤ 1000) : Calls Tryd.prog 24 #[v, .int .i64 0] w fun e w' => ∃ u, e = .returned u ∧ IsL w' u l.a ∧ Below w.heap.size w w' := by
  have HS := Bx.mk (isSeed_in 0 (by omega) w)
  have HO := Bx.mk (own_any8 v l w hv)
  obtain ⟨pt, rfl⟩ := hv.ptr
  have HL := Bx.mk hl
  clear hv hl
  go_enter Tryd.func24, Tryd.ntmps24
  go_wp2_with fail
  refine HS.out.mono ?_
  rintro e w1 ⟨rfl, hw1⟩
  rw [hw1]
  clear hw1 HS
  go_wp2_with fail
  refine HO.out.mono ?_
  rintro e w1 ⟨x, rfl, hx, hb⟩
  obtain ⟨p1, q1, t1, s1, a1, b1, c1, d1, rfl⟩ := hx.forms
  have i0 := idxL0 (.slice p1 l.a.length a1) (.slice q1 l.b.length b1) (.slice t1 l.c.length c1) (.slice s1 l.d.length d1)
  have HX := Bx.mk hx
  have HB := Bx.mk hb
  clear hx hb HO
  unfold VV.v
  go_wp2_with fail
  refine (longer_any [] l.a _ _ w1 (IsL.nil _) HX.out.a (by have := HL.out; simp; omega)).mono ?_
  rintro e w2 ⟨u, rfl, hu, hb2⟩
  rw [List.nil_append] at hu
  have HU := Bx.mk hu
  have HB2 := Bx.mk (HB.out.trans (hb2.mono HB.out.size))
  obtain ⟨a7, c7, rfl⟩ := hu.form
  clear hu hb2 i0 HX HB
  go_wp2
  go_ret
  exact ⟨_, rfl, HU.out, HB2.out⟩
set_option maxRecDepth 100000 in
theorem log_1 (v : Value) (l : L4) (w : World) (hv : SetV w v l) (hl : l.b.length ≤ 1000) : Calls Tryd.prog 24 #[v, .int .i64 1] w fun e w' => ∃ u, e = .returned u ∧ IsL w' u l.b ∧ Below w.heap.size w w' := by
  have HS := Bx.mk (isSeed_in 1 (by omega) w)
  have HO := Bx.mk (own_any8 v l w hv)
  obtain ⟨pt, rfl⟩ := hv.ptr
  have HL := Bx.mk hl
  clear hv hl
  go_enter Tryd.func24, Tryd.ntmps24
  go_wp2_with fail
  refine HS.out.mono ?_
  rintro e w1 ⟨rfl, hw1⟩
  rw [hw1]
  clear hw1 HS
  go_wp2_with fail
  refine HO.out.mono ?_
  rintro e w1 ⟨x, rfl, hx, hb⟩
  obtain ⟨p1, q1, t1, s1, a1, b1, c1, d1, rfl⟩ := hx.forms
  have i0 := idxL1 (.slice p1 l.a.length a1) (.slice q1 l.b.length b1) (.slice t1 l.c.length c1) (.slice s1 l.d.length d1)
  have HX := Bx.mk hx
  have HB := Bx.mk hb
  clear hx hb HO
  unfold VV.v
  go_wp2_with fail
  refine (longer_any [] l.b _ _ w1 (IsL.nil _) HX.out.b (by have := HL.out; simp; omega)).mono ?_
  rintro e w2 ⟨u, rfl, hu, hb2⟩
  rw [List.nil_append] at hu
  have HU := Bx.mk hu
  have HB2 := Bx.mk (HB.out.trans (hb2.mono HB.out.size))
  obtain ⟨a7, c7, rfl⟩ := hu.form
  clear hu hb2 i0 HX HB
  go_wp2
  go_ret
  exact ⟨_, rfl, HU.out, HB2.out⟩
set_option maxRecDepth 100000 in
theorem log_2 (v : Value) (l : L4) (w : World) (hv : SetV w v l) (hl : l.c.length ≤ 1000) : Calls Tryd.prog 24 #[v, .int .i64 2] w fun e w' => ∃ u, e = .returned u ∧ IsL w' u l.c ∧ Below w.heap.size w w' := by
  have HS := Bx.mk (isSeed_in 2 (by omega) w)
  have HO := Bx.mk (own_any8 v l w hv)
  obtain ⟨pt, rfl⟩ := hv.ptr
  have HL := Bx.mk hl
  clear hv hl
  go_enter Tryd.func24, Tryd.ntmps24
  go_wp2_with fail
  refine HS.out.mono ?_
  rintro e w1 ⟨rfl, hw1⟩
  rw [hw1]
  clear hw1 HS
  go_wp2_with fail
  refine HO.out.mono ?_
  rintro e w1 ⟨x, rfl, hx, hb⟩
  obtain ⟨p1, q1, t1, s1, a1, b1, c1, d1, rfl⟩ := hx.forms
  have i0 := idxL2 (.slice p1 l.a.length a1) (.slice q1 l.b.length b1) (.slice t1 l.c.length c1) (.slice s1 l.d.length d1)
  have HX := Bx.mk hx
  have HB := Bx.mk hb
  clear hx hb HO
  unfold VV.v
  go_wp2_with fail
  refine (longer_any [] l.c _ _ w1 (IsL.nil _) HX.out.c (by have := HL.out; simp; omega)).mono ?_
  rintro e w2 ⟨u, rfl, hu, hb2⟩
  rw [List.nil_append] at hu
  have HU := Bx.mk hu
  have HB2 := Bx.mk (HB.out.trans (hb2.mono HB.out.size))
  obtain ⟨a7, c7, rfl⟩ := hu.form
  clear hu hb2 i0 HX HB
  go_wp2
  go_ret
  exact ⟨_, rfl, HU.out, HB2.out⟩
set_option maxRecDepth 100000 in
theorem log_3 (v : Value) (l : L4) (w : World) (hv : SetV w v l) (hl : l.d.length ≤ 1000) : Calls Tryd.prog 24 #[v, .int .i64 3] w fun e w' => ∃ u, e = .returned u ∧ IsL w' u l.d ∧ Below w.heap.size w w' := by
  have HS := Bx.mk (isSeed_in 3 (by omega) w)
  have HO := Bx.mk (own_any8 v l w hv)
  obtain ⟨pt, rfl⟩ := hv.ptr
  have HL := Bx.mk hl
  clear hv hl
  go_enter Tryd.func24, Tryd.ntmps24
  go_wp2_with fail
  refine HS.out.mono ?_
  rintro e w1 ⟨rfl, hw1⟩
  rw [hw1]
  clear hw1 HS
  go_wp2_with fail
  refine HO.out.mono ?_
  rintro e w1 ⟨x, rfl, hx, hb⟩
  obtain ⟨p1, q1, t1, s1, a1, b1, c1, d1, rfl⟩ := hx.forms
  have i0 := idxL3 (.slice p1 l.a.length a1) (.slice q1 l.b.length b1) (.slice t1 l.c.length c1) (.slice s1 l.d.length d1)
  have HX := Bx.mk hx
  have HB := Bx.mk hb
  clear hx hb HO
  unfold VV.v
  go_wp2_with fail
  refine (longer_any [] l.d _ _ w1 (IsL.nil _) HX.out.d (by have := HL.out; simp; omega)).mono ?_
  rintro e w2 ⟨u, rfl, hu, hb2⟩
  rw [List.nil_append] at hu
  have HU := Bx.mk hu
  have HB2 := Bx.mk (HB.out.trans (hb2.mono HB.out.size))
  obtain ⟨a7, c7, rfl⟩ := hu.form
  clear hu hb2 i0 HX HB
  go_wp2
  go_ret
  exact ⟨_, rfl, HU.out, HB2.out⟩
theorem log_any (n : Int) (v : Value) (l : L4) (w : World) (hv : SetV w v l) (hg : Good l) : Calls Tryd.prog 24 #[v, .int .i64 n] w fun e w' => ∃ u, e = .returned u ∧ IsL w' u (logL l n) ∧ Below w.heap.size w w' := by
  unfold logL
  by_cases hn : 0 ≤ n ∧ n < 4
  · rw [if_pos hn]
    have h4 : n = 0 ∨ n = 1 ∨ n = 2 ∨ n = 3 := by omega
    rcases h4 with rfl | rfl | rfl | rfl
    · exact log_0 v l w hv (by have := hg.a; omega)
    · exact log_1 v l w hv (by have := hg.b; omega)
    · exact log_2 v l w hv (by have := hg.c; omega)
    · exact log_3 v l w hv (by have := hg.d; omega)
  · rw [if_neg hn]
    obtain ⟨pt, rfl⟩ := hv.ptr
    refine (log_out n pt w hn).mono ?_
    rintro e w' ⟨rfl, rfl⟩
    exact ⟨_, rfl, IsL.nil _, Below.refl _ _⟩
end Go.Proofs.YtmfhdhggpepbbaaDoor
