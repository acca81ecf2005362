/-
  Revocations: what a set has from versions on.
  Revocations: how many, two rows joined.
  Revocations: what a delta may say; joined, once more.
-/
import Derived.Test.YtnfgamekjbkbkaaDoorEh
import Derived.Test.YtnfgamekjbkbkaaDoorIm
namespace Go.Proofs.YtnfgamekjbkbkaaDoor
open Go Go.RowKit
/-- A delta's cells. -/
def dC (v : V4) (x : VV) : Array Value := #[.int .i64 v.a, .int .i64 v.b, .int .i64 v.c, .int .i64 v.d, x.a, x.b, x.c, x.d]
def V4.zero : V4 := ⟨0, 0, 0, 0⟩
theorem build_vers (W : World) : (Instr.build 28 #[]).run Tryd.prog W = .ok (.agg #[.int .i64 0, .int .i64 0, .int .i64 0, .int .i64 0]) W := by kernel_rfl
theorem build_delta (W : World) : (Instr.build 30 #[]).run Tryd.prog W = .ok (.agg #[.int .i64 0, .int .i64 0, .int .i64 0, .int .i64 0, .slice none 0 0, .slice none 0 0, .slice none 0 0, .slice none 0 0]) W := by kernel_rfl
theorem del_int : (30 : TypeId) ≠ 3 := by decide
theorem Rows4.grown {W W1 : World} {p : Nat} {x : VV} {l : L4} {T : TypeId} {cs : Array Value} {fr : Nat × Nat} (h : Rows4 W x l) (hg : W.grownBy W1 (some p)) (hp : W.heap[p]? = some (.cells cs T fr)) (hT : T ≠ 3) : Rows4 W1 x l := ⟨h.a.grown hg hp hT, h.b.grown hg hp hT, h.c.grown hg hp hT, h.d.grown hg hp hT⟩
theorem build_from (a b c d : Int) (W : World) : (Instr.build 30 #[(0, .agg #[.int .i64 a, .int .i64 b, .int .i64 c, .int .i64 d])]).run Tryd.prog W = .ok (.agg #[.int .i64 a, .int .i64 b, .int .i64 c, .int .i64 d, .slice none 0 0, .slice none 0 0, .slice none 0 0, .slice none 0 0]) W := by kernel_rfl
set_option maxRecDepth 100000 in
set_option maxHeartbeats 2000000 in
theorem since_ok (v : V4) (ma mb mc md : Nat) (p : Nat) (l : L4) (w : World) (hs : SetAt w p l) (hg : Good l) (ea : v.a = (ma : Int)) (eb : v.b = (mb : Int)) (ec : v.c = (mc : Int)) (ed : v.d = (md : Int)) (la : ma ≤ l.a.length) (lb : mb ≤ l.b.length) (lc : mc ≤ l.c.length) (ld : md ≤ l.d.length) :
    Calls Tryd.prog 60 #[.pointer (some ⟨p, 0, none⟩), v.v] w fun e w' => ∃ u : VV, e = .returned (.tuple #[.agg (dC v u), .int .i64 0]) ∧ Rows4 w' u ⟨l.a.drop ma, l.b.drop mb, l.c.drop mc, l.d.drop md⟩ ∧ Below w.heap.size w w' := by
  have h0 : covV v V4.zero = true := by unfold covV V4.zero; simp; omega
  have h1' : covV l.ver v = true := by unfold covV L4.ver; simp; omega
  have HE := Bx.mk (And.intro ea (And.intro eb (And.intro ec ed)))
  have HL := Bx.mk (And.intro la (And.intro lb (And.intro lc ld)))
  have HG := Bx.mk hg
  obtain ⟨r0, hr0⟩ : ∃ r, l.a.drop ma = r := ⟨_, rfl⟩
  obtain ⟨r1, hr1⟩ : ∃ r, l.b.drop mb = r := ⟨_, rfl⟩
  obtain ⟨r2, hr2⟩ : ∃ r, l.c.drop mc = r := ⟨_, rfl⟩
  obtain ⟨r3, hr3⟩ : ∃ r, l.d.drop md = r := ⟨_, rfl⟩
  rw [hr0, hr1, hr2, hr3]
  have HB0 : Bx (r0.length ≤ 256) := ⟨by rw [← hr0, List.length_drop]; have := hg.a; omega⟩
  have HB1 : Bx (r1.length ≤ 256) := ⟨by rw [← hr1, List.length_drop]; have := hg.b; omega⟩
  have HB2 : Bx (r2.length ≤ 256) := ⟨by rw [← hr2, List.length_drop]; have := hg.c; omega⟩
  have HB3 : Bx (r3.length ≤ 256) := ⟨by rw [← hr3, List.length_drop]; have := hg.d; omega⟩
  have HN0 := Bx.mk hr0
  have HN1 := Bx.mk hr1
  have HN2 := Bx.mk hr2
  have HN3 := Bx.mk hr3
  clear ea eb ec ed la lb lc ld hg hr0 hr1 hr2 hr3
  obtain ⟨E, hE⟩ : ∃ E, w.heap.size = E := ⟨_, rfl⟩
  have K0 : Bx (KR w E [(E + 1, (.cells #[.int .i64 0, .int .i64 0, .int .i64 0, .int .i64 0, .slice none 0 0, .slice none 0 0, .slice none 0 0, .slice none 0 0] 30)), (E, (.cells #[.int .i64 v.a, .int .i64 v.b, .int .i64 v.c, .int .i64 v.d] 28))] ((w.alloc (.cells #[.int .i64 v.a, .int .i64 v.b, .int .i64 v.c, .int .i64 v.d] 28)).alloc (.cells #[.int .i64 0, .int .i64 0, .int .i64 0, .int .i64 0, .slice none 0 0, .slice none 0 0, .slice none 0 0, .slice none 0 0] 30))) := Bx.mk (by
    subst hE
    have h := ((KR.start w).new (.cells #[.int .i64 v.a, .int .i64 v.b, .int .i64 v.c, .int .i64 v.d] 28)).new (.cells #[.int .i64 0, .int .i64 0, .int .i64 0, .int .i64 0, .slice none 0 0, .slice none 0 0, .slice none 0 0, .slice none 0 0] 30)
    simpa using h)
  have hbw := build_delta
  have HS0 : Bx (SetAt ((w.alloc (.cells #[.int .i64 v.a, .int .i64 v.b, .int .i64 v.c, .int .i64 v.d] 28)).alloc (.cells #[.int .i64 0, .int .i64 0, .int .i64 0, .int .i64 0, .slice none 0 0, .slice none 0 0, .slice none 0 0, .slice none 0 0] 30)) p l) := ⟨(hs.later (below_a _)).later (below_a _)⟩
  have HC1 := Bx.mk (fun W => covers_any8 v V4.zero W)
  have HV := Bx.mk (fun W h => versions_any (.pointer (some ⟨p, 0, none⟩)) l W (.inr ⟨p, rfl, h⟩))
  have HC2 := Bx.mk (fun W => covers_any8 l.ver v W)
  rw [h0] at HC1
  rw [h1'] at HC2
  clear hs h0 h1'
  rw [hE]
  unfold V4.v at *
  simp only [V4.zero] at HC1
  go_enter Tryd.func60, Tryd.ntmps60
  go_upto_region 3 with fail
  generalize ((w.alloc (.cells #[.int .i64 v.a, .int .i64 v.b, .int .i64 v.c, .int .i64 v.d] 28)).alloc (.cells #[.int .i64 0, .int .i64 0, .int .i64 0, .int .i64 0, .slice none 0 0, .slice none 0 0, .slice none 0 0, .slice none 0 0] 30)) = w0 at *
  have R0 := Bx.mk K0.out.drew
  have S0 := Bx.mk (HS0.out.later (Below.refl _ _).drew)
  clear K0 HS0
  refine wp_region_noPanic ?_
  refine wp_region_held_drew (S := fun W => W.rangeAt E 0 [.int .i64 v.a, .int .i64 v.b, .int .i64 v.c, .int .i64 v.d]) (by kernel_rfl) (row_rng8 (l := [.int .i64 v.a, .int .i64 v.b, .int .i64 v.c, .int .i64 v.d]) (R0.out.rows _ (.tail _ (.head _)))) (fun hHeld => ?_)
  generalize w0.drew = W0 at *
  refine takeL 0 rfl (by kernel_rfl) (by kernel_rfl) (by kernel_rfl) (fun _ _ _ h => h) (yieldsIf_load_mid (by rfl) _ _ rfl _ _ rfl _ _ (fun w hSw => hSw) Tryd.underlying28 rfl (by kernel_rfl)) hHeld ?_
  try simp only [Act.put, List.setIfInBounds_toArray, List.set_cons_zero, List.set_cons_succ]
  refine takeL 1 (v := ?_) rfl (by kernel_rfl) (by kernel_rfl) (by kernel_rfl) (fun _ _ _ h => h) (Or.inl ⟨by rfl, ?_⟩) hHeld ?_
  rotate_left 1
  · (intro w hSw; have h := build_vers w; go_simp; try with_reducible rfl)
  try simp only [Act.put, List.setIfInBounds_toArray, List.set_cons_zero, List.set_cons_succ]
  refine stepL 2 (by kernel_rfl) rfl (fun K hK => ?_)
  go_simp
  refine (HC1.out W0).mono ?_
  rintro e W1 ⟨rfl, hb⟩
  show K _ _
  have R1 := Bx.mk (R0.out.later hb)
  have S1 := Bx.mk (S0.out.later hb)
  clear hb
  refine hK.out _ _ (row_rng8 (l := [.int .i64 v.a, .int .i64 v.b, .int .i64 v.c, .int .i64 v.d]) (R1.out.rows _ (.tail _ (.head _)))) (fun hHeld => ?_)
  clear hK K
  try simp only [Act.put, List.setIfInBounds_toArray, List.set_cons_zero, List.set_cons_succ]
  refine takeL 3 (v := ?_) rfl (by kernel_rfl) (by kernel_rfl) (by kernel_rfl) (fun _ _ _ h => h) (Or.inl ⟨by rfl, ?_⟩) hHeld ?_
  rotate_left 1
  · (intro w hSw; go_simp; try with_reducible rfl)
  try simp only [Act.put, List.setIfInBounds_toArray, List.set_cons_zero, List.set_cons_succ]
  refine takeL 4 (v := ?_) rfl (by kernel_rfl) (by kernel_rfl) (by kernel_rfl) (fun _ _ _ h => h) (Or.inl ⟨by rfl, ?_⟩) hHeld ?_
  rotate_left 1
  · (intro w hSw; go_simp; try with_reducible rfl)
  try simp only [Act.put, List.setIfInBounds_toArray, List.set_cons_zero, List.set_cons_succ]
  refine takeL 5 (v := ?_) rfl (by kernel_rfl) (by kernel_rfl) (by kernel_rfl) (fun _ _ _ h => h) (Or.inl ⟨by rfl, ?_⟩) hHeld ?_
  rotate_left 1
  · (intro w hSw; go_simp; try with_reducible rfl)
  try simp only [Act.put, List.setIfInBounds_toArray, List.set_cons_zero, List.set_cons_succ]
  refine takeL 7 rfl (by kernel_rfl) (by kernel_rfl) (by kernel_rfl) (fun _ _ _ h => h) (yieldsIf_load_mid (by rfl) _ _ rfl _ _ rfl _ _ (fun w hSw => hSw) Tryd.underlying28 rfl (by kernel_rfl)) hHeld ?_
  try simp only [Act.put, List.setIfInBounds_toArray, List.set_cons_zero, List.set_cons_succ]
  refine stepL 6 (by kernel_rfl) rfl (fun K hK => ?_)
  go_simp
  refine (HV.out W1 S1.out).mono ?_
  rintro e W2 ⟨rfl, hb⟩
  show K _ _
  have R2 := Bx.mk (R1.out.later hb)
  have S2 := Bx.mk (S1.out.later hb)
  clear hb
  refine hK.out _ _ (row_rng8 (l := [.int .i64 v.a, .int .i64 v.b, .int .i64 v.c, .int .i64 v.d]) (R2.out.rows _ (.tail _ (.head _)))) (fun hHeld => ?_)
  clear hK K
  try simp only [Act.put, List.setIfInBounds_toArray, List.set_cons_zero, List.set_cons_succ]
  refine stepL 8 (by kernel_rfl) rfl (fun K hK => ?_)
  go_simp
  refine (HC2.out W2).mono ?_
  rintro e W3 ⟨rfl, hb⟩
  show K _ _
  have R3 := Bx.mk (R2.out.later hb)
  have S3 := Bx.mk (S2.out.later hb)
  clear hb
  refine hK.out _ _ (row_rng8 (l := [.int .i64 v.a, .int .i64 v.b, .int .i64 v.c, .int .i64 v.d]) (R3.out.rows _ (.tail _ (.head _)))) (fun hHeld => ?_)
  clear hK K
  try simp only [Act.put, List.setIfInBounds_toArray, List.set_cons_zero, List.set_cons_succ]
  refine takeL 9 (v := ?_) rfl (by kernel_rfl) (by kernel_rfl) (by kernel_rfl) (fun _ _ _ h => h) (Or.inl ⟨by rfl, ?_⟩) hHeld ?_
  rotate_left 1
  · (intro w hSw; go_simp; try with_reducible rfl)
  try simp only [Act.put, List.setIfInBounds_toArray, List.set_cons_zero, List.set_cons_succ]
  refine takeL 10 (v := ?_) rfl (by kernel_rfl) (by kernel_rfl) (by kernel_rfl) (fun _ _ _ h => h) (Or.inl ⟨by rfl, ?_⟩) hHeld ?_
  rotate_left 1
  · (intro w hSw; go_simp; try with_reducible rfl)
  try simp only [Act.put, List.setIfInBounds_toArray, List.set_cons_zero, List.set_cons_succ]
  refine wpAnyH_done (by kernel_rfl) ?_ _
  refine NoPanic.normal ?_
  clear hHeld
  have hbf := build_from v.a v.b v.c v.d
  obtain ⟨x, hx, hr⟩ := S3.out
  obtain ⟨p1, q1, t1, s1, a1, b1, c1, d1, rfl⟩ := hr.forms
  have HX := Bx.mk hx
  have HRw := Bx.mk hr
  clear hx hr
  obtain ⟨D, hD⟩ : ∃ D, W3.heap.size = D := ⟨_, rfl⟩
  have K1 : Bx (KR w E [(D, .cells #[.int .i64 v.a, .int .i64 v.b, .int .i64 v.c, .int .i64 v.d, .slice none 0 0, .slice none 0 0, .slice none 0 0, .slice none 0 0] 30), (E + 1, (.cells #[.int .i64 0, .int .i64 0, .int .i64 0, .int .i64 0, .slice none 0 0, .slice none 0 0, .slice none 0 0, .slice none 0 0] 30)), (E, (.cells #[.int .i64 v.a, .int .i64 v.b, .int .i64 v.c, .int .i64 v.d] 28))] (W3.alloc (.cells #[.int .i64 v.a, .int .i64 v.b, .int .i64 v.c, .int .i64 v.d, .slice none 0 0, .slice none 0 0, .slice none 0 0, .slice none 0 0] 30))) := Bx.mk (by
    have h := R3.out.new (.cells #[.int .i64 v.a, .int .i64 v.b, .int .i64 v.c, .int .i64 v.d, .slice none 0 0, .slice none 0 0, .slice none 0 0, .slice none 0 0] 30)
    rw [hD] at h
    exact h)
  have HX1 : Bx ((W3.alloc (.cells #[.int .i64 v.a, .int .i64 v.b, .int .i64 v.c, .int .i64 v.d, .slice none 0 0, .slice none 0 0, .slice none 0 0, .slice none 0 0] 30)).heap[p]? = _) := ⟨(hold _ _ _ (Array.getElem?_eq_some_iff.1 HX.out).1).trans HX.out⟩
  have Q0 := Bx.mk (HRw.out.later (below_a (.cells #[.int .i64 v.a, .int .i64 v.b, .int .i64 v.c, .int .i64 v.d, .slice none 0 0, .slice none 0 0, .slice none 0 0, .slice none 0 0] 30)))
  have HDl : Bx (E + 1 < D) := ⟨by rw [← hD]; exact R3.out.lt (.head _)⟩
  clear HX HRw S3 HC1 HC2 HV hbw
  have i0 := idxL0 (.slice p1 l.a.length a1) (.slice q1 l.b.length b1) (.slice t1 l.c.length c1) (.slice s1 l.d.length d1)
  have i1 := idxL1 (.slice p1 l.a.length a1) (.slice q1 l.b.length b1) (.slice t1 l.c.length c1) (.slice s1 l.d.length d1)
  have i2 := idxL2 (.slice p1 l.a.length a1) (.slice q1 l.b.length b1) (.slice t1 l.c.length c1) (.slice s1 l.d.length d1)
  have i3 := idxL3 (.slice p1 l.a.length a1) (.slice q1 l.b.length b1) (.slice t1 l.c.length c1) (.slice s1 l.d.length d1)
  go_wp2_with (first | (refine wpList_load_row rfl 28 _ rfl E (by rfl) _ #[.int .i64 v.a, .int .i64 v.b, .int .i64 v.c, .int .i64 v.d] (0, 0) _ (R3.out.rows _ (.tail _ (.head _))) Tryd.underlying28 rfl (by kernel_rfl) ?_) | (refine wpList_load_row rfl 24 _ rfl p (by rfl) _ #[.slice p1 l.a.length a1, .slice q1 l.b.length b1, .slice t1 l.c.length c1, .slice s1 l.d.length d1] (0, 0) _ HX1.out Tryd.underlying24 rfl (by kernel_rfl) ?_))
  generalize W3.alloc (.cells #[.int .i64 v.a, .int .i64 v.b, .int .i64 v.c, .int .i64 v.d, .slice none 0 0, .slice none 0 0, .slice none 0 0, .slice none 0 0] 30) = y0 at *
  clear R3 hD hbf
  refine wp_loop_rounds 5 ?_
  rw [rounds_succ]
  have kE : y0.cell? ⟨E, 0, none⟩ = some (.int .i64 (ma : Int)) := by rw [cell_of_row _ _ _ _ _ _ (K1.out.rows _ (.tail _ (.tail _ (.head _)))), ← HE.out.1]; rfl
  have hcut := cut_l p1 l.a.length a1 ma HL.out.1
  have HP : Bx (IsL y0 (sl p1 a1 ma l.a.length) r0) := ⟨by have h := Q0.out.a.part ma l.a.length HL.out.1 (Nat.le_refl _); rw [List.take_length, HN0.out] at h; exact h⟩
  go_wp2_with fail
  refine (longer_any [] r0 _ _ y0 (IsL.nil _) HP.out (by have := HB0.out; simp; omega)).mono ?_
  rintro e y1 ⟨v0, rfl, hu, hb⟩
  rw [List.nil_append] at hu
  obtain ⟨u0, g0, hv0⟩ := hu.form
  subst hv0
  have U0a := Bx.mk hu
  have K1a := Bx.mk (K1.out.later hb)
  have Q0a := Bx.mk (Q0.out.later hb)
  clear hu hb kE hcut HP K1 Q0
  go_wp2_with (refine wpList_cellS rfl _ _ rfl D 4 u0 r0.length g0 #[.int .i64 v.a, .int .i64 v.b, .int .i64 v.c, .int .i64 v.d, .slice none 0 0, .slice none 0 0, .slice none 0 0, .slice none 0 0] #[.int .i64 v.a, .int .i64 v.b, .int .i64 v.c, .int .i64 v.d, .slice u0 r0.length g0, .slice none 0 0, .slice none 0 0, .slice none 0 0] 30 (by rfl) (by rfl) (K1a.out.rows _ (.head _)) (by simp) rfl ?_; intro y2 hg hr; have K2 := Bx.mk (K1a.out.set hg hr (by have := HDl.out; omega) (by have := HDl.out; intro z hz; simp at hz; rcases hz with rfl | rfl <;> simp <;> omega)); have Q1 := Bx.mk (Q0a.out.grown hg (K1a.out.rows _ (.head _)) del_int); have U0 := Bx.mk (U0a.out.grown hg (K1a.out.rows _ (.head _)) del_int); clear hg hr K1a Q0a U0a)
  rw [rounds_succ]
  have kE : y2.cell? ⟨E, 1, none⟩ = some (.int .i64 (mb : Int)) := by rw [cell_of_row _ _ _ _ _ _ (K2.out.rows _ (.tail _ (.tail _ (.head _)))), ← HE.out.2.1]; rfl
  have hcut := cut_l q1 l.b.length b1 mb HL.out.2.1
  have HP : Bx (IsL y2 (sl q1 b1 mb l.b.length) r1) := ⟨by have h := Q1.out.b.part mb l.b.length HL.out.2.1 (Nat.le_refl _); rw [List.take_length, HN1.out] at h; exact h⟩
  go_wp2_with fail
  refine (longer_any [] r1 _ _ y2 (IsL.nil _) HP.out (by have := HB1.out; simp; omega)).mono ?_
  rintro e y3 ⟨v1, rfl, hu, hb⟩
  rw [List.nil_append] at hu
  obtain ⟨u1, g1, hv1⟩ := hu.form
  subst hv1
  have U1a := Bx.mk hu
  have K2a := Bx.mk (K2.out.later hb)
  have Q1a := Bx.mk (Q1.out.later hb)
  have U0b := Bx.mk (U0.out.later hb)
  clear U0
  clear hu hb kE hcut HP K2 Q1
  go_wp2_with (refine wpList_cellS rfl _ _ rfl D 5 u1 r1.length g1 #[.int .i64 v.a, .int .i64 v.b, .int .i64 v.c, .int .i64 v.d, .slice u0 r0.length g0, .slice none 0 0, .slice none 0 0, .slice none 0 0] #[.int .i64 v.a, .int .i64 v.b, .int .i64 v.c, .int .i64 v.d, .slice u0 r0.length g0, .slice u1 r1.length g1, .slice none 0 0, .slice none 0 0] 30 (by rfl) (by rfl) (K2a.out.rows _ (.head _)) (by simp) rfl ?_; intro y4 hg hr; have K3 := Bx.mk (K2a.out.set hg hr (by have := HDl.out; omega) (by have := HDl.out; intro z hz; simp at hz; rcases hz with rfl | rfl <;> simp <;> omega)); have Q2 := Bx.mk (Q1a.out.grown hg (K2a.out.rows _ (.head _)) del_int); have U1 := Bx.mk (U1a.out.grown hg (K2a.out.rows _ (.head _)) del_int); have U0 := Bx.mk (U0b.out.grown hg (K2a.out.rows _ (.head _)) del_int); clear U0b; clear hg hr K2a Q1a U1a)
  rw [rounds_succ]
  have kE : y4.cell? ⟨E, 2, none⟩ = some (.int .i64 (mc : Int)) := by rw [cell_of_row _ _ _ _ _ _ (K3.out.rows _ (.tail _ (.tail _ (.head _)))), ← HE.out.2.2.1]; rfl
  have hcut := cut_l t1 l.c.length c1 mc HL.out.2.2.1
  have HP : Bx (IsL y4 (sl t1 c1 mc l.c.length) r2) := ⟨by have h := Q2.out.c.part mc l.c.length HL.out.2.2.1 (Nat.le_refl _); rw [List.take_length, HN2.out] at h; exact h⟩
  go_wp2_with fail
  refine (longer_any [] r2 _ _ y4 (IsL.nil _) HP.out (by have := HB2.out; simp; omega)).mono ?_
  rintro e y5 ⟨v2, rfl, hu, hb⟩
  rw [List.nil_append] at hu
  obtain ⟨u2, g2, hv2⟩ := hu.form
  subst hv2
  have U2a := Bx.mk hu
  have K3a := Bx.mk (K3.out.later hb)
  have Q2a := Bx.mk (Q2.out.later hb)
  have U0b := Bx.mk (U0.out.later hb)
  clear U0
  have U1b := Bx.mk (U1.out.later hb)
  clear U1
  clear hu hb kE hcut HP K3 Q2
  go_wp2_with (refine wpList_cellS rfl _ _ rfl D 6 u2 r2.length g2 #[.int .i64 v.a, .int .i64 v.b, .int .i64 v.c, .int .i64 v.d, .slice u0 r0.length g0, .slice u1 r1.length g1, .slice none 0 0, .slice none 0 0] #[.int .i64 v.a, .int .i64 v.b, .int .i64 v.c, .int .i64 v.d, .slice u0 r0.length g0, .slice u1 r1.length g1, .slice u2 r2.length g2, .slice none 0 0] 30 (by rfl) (by rfl) (K3a.out.rows _ (.head _)) (by simp) rfl ?_; intro y6 hg hr; have K4 := Bx.mk (K3a.out.set hg hr (by have := HDl.out; omega) (by have := HDl.out; intro z hz; simp at hz; rcases hz with rfl | rfl <;> simp <;> omega)); have Q3 := Bx.mk (Q2a.out.grown hg (K3a.out.rows _ (.head _)) del_int); have U2 := Bx.mk (U2a.out.grown hg (K3a.out.rows _ (.head _)) del_int); have U0 := Bx.mk (U0b.out.grown hg (K3a.out.rows _ (.head _)) del_int); clear U0b; have U1 := Bx.mk (U1b.out.grown hg (K3a.out.rows _ (.head _)) del_int); clear U1b; clear hg hr K3a Q2a U2a)
  rw [rounds_succ]
  have kE : y6.cell? ⟨E, 3, none⟩ = some (.int .i64 (md : Int)) := by rw [cell_of_row _ _ _ _ _ _ (K4.out.rows _ (.tail _ (.tail _ (.head _)))), ← HE.out.2.2.2]; rfl
  have hcut := cut_l s1 l.d.length d1 md HL.out.2.2.2
  have HP : Bx (IsL y6 (sl s1 d1 md l.d.length) r3) := ⟨by have h := Q3.out.d.part md l.d.length HL.out.2.2.2 (Nat.le_refl _); rw [List.take_length, HN3.out] at h; exact h⟩
  go_wp2_with fail
  refine (longer_any [] r3 _ _ y6 (IsL.nil _) HP.out (by have := HB3.out; simp; omega)).mono ?_
  rintro e y7 ⟨v3, rfl, hu, hb⟩
  rw [List.nil_append] at hu
  obtain ⟨u3, g3, hv3⟩ := hu.form
  subst hv3
  have U3a := Bx.mk hu
  have K4a := Bx.mk (K4.out.later hb)
  have Q3a := Bx.mk (Q3.out.later hb)
  have U0b := Bx.mk (U0.out.later hb)
  clear U0
  have U1b := Bx.mk (U1.out.later hb)
  clear U1
  have U2b := Bx.mk (U2.out.later hb)
  clear U2
  clear hu hb kE hcut HP K4 Q3
  go_wp2_with (refine wpList_cellS rfl _ _ rfl D 7 u3 r3.length g3 #[.int .i64 v.a, .int .i64 v.b, .int .i64 v.c, .int .i64 v.d, .slice u0 r0.length g0, .slice u1 r1.length g1, .slice u2 r2.length g2, .slice none 0 0] #[.int .i64 v.a, .int .i64 v.b, .int .i64 v.c, .int .i64 v.d, .slice u0 r0.length g0, .slice u1 r1.length g1, .slice u2 r2.length g2, .slice u3 r3.length g3] 30 (by rfl) (by rfl) (K4a.out.rows _ (.head _)) (by simp) rfl ?_; intro y8 hg hr; have K5 := Bx.mk (K4a.out.set hg hr (by have := HDl.out; omega) (by have := HDl.out; intro z hz; simp at hz; rcases hz with rfl | rfl <;> simp <;> omega)); have Q4 := Bx.mk (Q3a.out.grown hg (K4a.out.rows _ (.head _)) del_int); have U3 := Bx.mk (U3a.out.grown hg (K4a.out.rows _ (.head _)) del_int); have U0 := Bx.mk (U0b.out.grown hg (K4a.out.rows _ (.head _)) del_int); clear U0b; have U1 := Bx.mk (U1b.out.grown hg (K4a.out.rows _ (.head _)) del_int); clear U1b; have U2 := Bx.mk (U2b.out.grown hg (K4a.out.rows _ (.head _)) del_int); clear U2b; clear hg hr K4a Q3a U3a)
  rw [rounds_succ]
  go_wp2_with (first | (refine wpList_load_row rfl 30 _ rfl D (by rfl) _ #[.int .i64 v.a, .int .i64 v.b, .int .i64 v.c, .int .i64 v.d, .slice u0 r0.length g0, .slice u1 r1.length g1, .slice u2 r2.length g2, .slice u3 r3.length g3] (0, 0) _ (K5.out.rows _ (.head _)) Tryd.underlying30 rfl (by kernel_rfl) ?_) | (refine wpList_store_new rfl 30 _ _ rfl (E + 1) #[.int .i64 v.a, .int .i64 v.b, .int .i64 v.c, .int .i64 v.d, .slice u0 r0.length g0, .slice u1 r1.length g1, .slice u2 r2.length g2, .slice u3 r3.length g3] _ _ (by rfl) (by rfl) (K5.out.rows _ (.tail _ (.head _))) rfl (by kernel_rfl) (by simp [Value.oneCell']) ?_; intro w9 hw9 hr9; have HR := Bx.mk hr9; have HG9 := Bx.mk hw9; clear hw9 hr9))
  refine bodyPost_ret (results_pair rfl _ _ _ (E + 1) _ rfl (run_loadVar_row _ _ _ _ _ _ _ HR.out Tryd.underlying30 rfl (by kernel_rfl))) rfl ?_
  have hg9 : y8.grownBy w9 (some (E + 1)) := by rw [HG9.out]; exact kb_setCells _ _ _
  have hE9 := K5.out.rows _ (.tail _ (.head _))
  refine ⟨⟨.slice u0 r0.length g0, .slice u1 r1.length g1, .slice u2 r2.length g2, .slice u3 r3.length g3⟩, rfl, ⟨U0.out.grown hg9 hE9 del_int, U1.out.grown hg9 hE9 del_int, U2.out.grown hg9 hE9 del_int, U3.out.grown hg9 hE9 del_int⟩, by rw [HG9.out]; exact below_setCells (by omega) _ _ _ _ K5.out.below⟩
end Go.Proofs.YtnfgamekjbkbkaaDoor
namespace Go.Proofs.YtnfgamekjbkbkaaDoor
open Go Go.RowKit
set_option maxRecDepth 100000 in
set_option maxHeartbeats 1000000 in
theorem sum_any8 (a b c d : Nat) (w : World) (ha : a ≤ 1000000) (hb : b ≤ 1000000) (hc : c ≤ 1000000) (hd : d ≤ 1000000) : Calls Tryd.prog 92 #[(V4.mk a b c d).v] w fun e w' => e = .returned (.int .i64 ((a + b + c + d : Nat) : Int)) ∧ Below w.heap.size w w' := by
  obtain ⟨m, hm⟩ : ∃ m, a + b + c + d = m := ⟨_, rfl⟩
  rw [hm]
  have HM := Bx.mk hm
  have a1 : (a : Int) ≤ 1000000 := by omega
  have b1 : (b : Int) ≤ 1000000 := by omega
  have c1 : (c : Int) ≤ 1000000 := by omega
  have d1 : (d : Int) ≤ 1000000 := by omega
  have a0 : (0 : Int) ≤ (a : Int) := by omega
  have b0 : (0 : Int) ≤ (b : Int) := by omega
  have c0 : (0 : Int) ≤ (c : Int) := by omega
  have d0 : (0 : Int) ≤ (d : Int) := by omega
  have i0 := idxV0 a b c d
  have i1 := idxV1 a b c d
  have i2 := idxV2 a b c d
  have i3 := idxV3 a b c d
  have hbl := below_a (W := w) (.cells #[.int .i64 (a : Int), .int .i64 (b : Int), .int .i64 (c : Int), .int .i64 (d : Int)] 28)
  have HBl := Bx.mk hbl
  unfold V4.v
  clear hm hbl ha hb hc hd
  go_enter Tryd.func92, Tryd.ntmps92
  go_wp2
  refine wp_loop_rounds 5 ?_
  rw [rounds_succ]
  go_wp2
  rw [rounds_succ]
  go_wp2
  rw [rounds_succ]
  go_wp2
  rw [rounds_succ]
  go_wp2
  rw [rounds_succ]
  go_wp2
  go_ret
  refine ⟨?_, HBl.out⟩
  have h := HM.out
  show Ending.returned (Value.int .i64 _) = _
  congr 2
  omega
/-- Two rows joined. -/
def bothN (l1 : List Int) (n : Nat) (l2 : List Int) : Nat := min (l1.length - n) l2.length
def fitL (l1 : List Int) (n : Nat) (l2 : List Int) : Prop := (l1.take (n + bothN l1 n l2)).drop n = l2.take (bothN l1 n l2)
instance (l1 : List Int) (n : Nat) (l2 : List Int) : Decidable (fitL l1 n l2) := inferInstanceAs (Decidable (_ = _))
set_option maxRecDepth 100000 in
set_option maxHeartbeats 1000000 in
theorem joined_bad (l1 l2 : List Int) (n : Nat) (v1 v2 : Value) (w : World) (h1 : IsL w v1 l1) (h2 : IsL w v2 l2) (hn : n ≤ l1.length) (hs1 : l1.length ≤ 1000) (hs2 : l2.length ≤ 1000) (hf : ¬ fitL l1 n l2) :
    Calls Tryd.prog 91 #[v1, .int .i64 (n : Int), v2] w fun e w' => e = .returned (.tuple #[.slice none 0 0, .bool false]) ∧ Below w.heap.size w w' := by
  obtain ⟨b, hb⟩ : ∃ b, bothN l1 n l2 = b := ⟨_, rfl⟩
  have hbl : n + b ≤ l1.length := by rw [← hb]; unfold bothN; omega
  have hbm : b ≤ l2.length := by rw [← hb]; unfold bothN; omega
  have hmin : min ((l1.length : Int) - (n : Int)) (l2.length : Int) = (b : Int) := by rw [← hb]; unfold bothN; omega
  obtain ⟨nb, hnb⟩ : ∃ nb, n + b = nb := ⟨_, rfl⟩
  have hP1 : ∀ W, Below w.heap.size w W → IsL W v1 l1 := fun W h => h1.later h
  have hP2 : ∀ W, Below w.heap.size w W → IsL W v2 l2 := fun W h => h2.later h
  obtain ⟨a1, c1, hv1⟩ := h1.form
  obtain ⟨a2, c2, hv2⟩ := h2.form
  subst hv1 hv2
  have hc1 : l1.length ≤ c1 := by
    obtain ⟨a', c', hv, hc, -⟩ := h1
    injection hv with e1 e2 e3
    rw [e3]; exact hc
  have hc2 : l2.length ≤ c2 := by
    obtain ⟨a', c', hv, hc, -⟩ := h2
    injection hv with e1 e2 e3
    rw [e3]; exact hc
  have HCut1 := Bx.mk (fun W => cut_lh a1 l1.length c1 n nb (by omega) (by omega) W)
  have HCut2 := Bx.mk (fun W => cut_h a2 l2.length c2 b (by omega) W)
  have HCut3 := Bx.mk (fun W => cut_l a2 l2.length c2 b hbm W)
  have HPa : Bx (∀ W, Below w.heap.size w W → IsL W (sl a1 c1 n nb) ((l1.take nb).drop n)) := ⟨fun W h => (hP1 W h).part n nb (by omega) (by omega)⟩
  have HPb : Bx (∀ W, Below w.heap.size w W → IsL W (.slice a2 b c2) (l2.take b)) := ⟨fun W h => (hP2 W h).cut b hbm c2 (by omega) (fun e => by
    obtain ⟨a', c', hv, _, hc, -⟩ := h2
    injection hv with e1 e2 e3
    rw [e3]; exact hc (e1.symm.trans e))⟩
  have HPc : Bx (∀ W, Below w.heap.size w W → IsL W (sl a2 c2 b l2.length) (l2.drop b)) := ⟨fun W h => by
    have h' := (hP2 W h).part b l2.length hbm (Nat.le_refl _)
    rw [List.take_length] at h'
    exact h'⟩
  have HPd := Bx.mk hP1
  have hl1 : (l1.length : Int) ≤ 1000 := by omega
  have hl2 : (l2.length : Int) ≤ 1000 := by omega
  have hn0 : (n : Int) ≤ (l1.length : Int) := by omega
  have hb1 : (b : Int) ≤ 1000 := by omega
  have hsum : (n : Int) + (b : Int) = (nb : Int) := by omega
  have hnb1 : (nb : Int) ≤ 1000 := by omega
  have hwr : IntKind.i64.wrap (nb : Int) = (nb : Int) := by rw [IntKind.wrap_i64]; omega
  have hnn : (n : Int) ≤ (nb : Int) := by omega
  have HL : Bx (l1.length ≤ 1000 ∧ l2.length ≤ 1000) := ⟨⟨hs1, hs2⟩⟩
  have HEq := Bx.mk (fun W (h : Below w.heap.size w W) => equal_any8 _ _ _ _ W (HPa.out W h) (HPb.out W h) (by rw [List.length_drop, List.length_take]; omega) (by rw [List.length_take]; omega))
  rw [decide_eq_false (by have h := hf; unfold fitL at h; rw [hb, hnb] at h; exact h)] at HEq
  clear hf
  clear hP1 hP2 h1 h2 hb hbl hbm hc1 hc2 hs1 hs2 hn hnb
  go_enter Tryd.func91, Tryd.ntmps91
  go_upto_region 2 with fail
  have R0 := Bx.mk (Below.refl w.heap.size w).drew
  refine wp_region_noPanic ?_
  refine wp_region_held_drew (S := fun _ => True) (by kernel_rfl) (trivial) (fun hHeld => ?_)
  generalize w.drew = W0 at *
  refine takeL 0 (v := ?_) rfl (by kernel_rfl) (by kernel_rfl) (by kernel_rfl) (fun _ _ _ h => h) (Or.inl ⟨by rfl, ?_⟩) hHeld ?_
  rotate_left 1
  · (intro w hSw; go_simp; try with_reducible rfl)
  try simp only [Act.put, List.setIfInBounds_toArray, List.set_cons_zero, List.set_cons_succ]
  refine takeL 1 (v := ?_) rfl (by kernel_rfl) (by kernel_rfl) (by kernel_rfl) (fun _ _ _ h => h) (Or.inl ⟨by rfl, ?_⟩) hHeld ?_
  rotate_left 1
  · (intro w hSw; go_simp; try with_reducible rfl)
  try simp only [Act.put, List.setIfInBounds_toArray, List.set_cons_zero, List.set_cons_succ]
  refine takeL 2 (v := ?_) rfl (by kernel_rfl) (by kernel_rfl) (by kernel_rfl) (fun _ _ _ h => h) (Or.inl ⟨by rfl, ?_⟩) hHeld ?_
  rotate_left 1
  · (intro w hSw; go_simp; try with_reducible rfl)
  try simp only [Act.put, List.setIfInBounds_toArray, List.set_cons_zero, List.set_cons_succ]
  refine takeL 3 (v := ?_) rfl (by kernel_rfl) (by kernel_rfl) (by kernel_rfl) (fun _ _ _ h => h) (Or.inl ⟨by rfl, ?_⟩) hHeld ?_
  rotate_left 1
  · (intro w hSw; go_simp; try with_reducible rfl)
  try simp only [Act.put, List.setIfInBounds_toArray, List.set_cons_zero, List.set_cons_succ]
  refine takeL 4 (v := ?_) rfl (by kernel_rfl) (by kernel_rfl) (by kernel_rfl) (fun _ _ _ h => h) (Or.inl ⟨by rfl, ?_⟩) hHeld ?_
  rotate_left 1
  · (intro w hSw; have h := hsum; have h2 := hwr; go_simp; try with_reducible rfl)
  try simp only [Act.put, List.setIfInBounds_toArray, List.set_cons_zero, List.set_cons_succ]
  refine takeL 5 (v := ?_) rfl (by kernel_rfl) (by kernel_rfl) (by kernel_rfl) (fun _ _ _ h => h) (Or.inl ⟨by rfl, ?_⟩) hHeld ?_
  rotate_left 1
  · (intro w hSw; have h := HCut1.out w; go_simp; try with_reducible rfl)
  try simp only [Act.put, List.setIfInBounds_toArray, List.set_cons_zero, List.set_cons_succ]
  refine takeL 6 (v := ?_) rfl (by kernel_rfl) (by kernel_rfl) (by kernel_rfl) (fun _ _ _ h => h) (Or.inl ⟨by rfl, ?_⟩) hHeld ?_
  rotate_left 1
  · (intro w hSw; go_simp; try with_reducible rfl)
  try simp only [Act.put, List.setIfInBounds_toArray, List.set_cons_zero, List.set_cons_succ]
  refine takeL 7 (v := ?_) rfl (by kernel_rfl) (by kernel_rfl) (by kernel_rfl) (fun _ _ _ h => h) (Or.inl ⟨by rfl, ?_⟩) hHeld ?_
  rotate_left 1
  · (intro w hSw; go_simp; try with_reducible rfl)
  try simp only [Act.put, List.setIfInBounds_toArray, List.set_cons_zero, List.set_cons_succ]
  refine takeL 8 (v := ?_) rfl (by kernel_rfl) (by kernel_rfl) (by kernel_rfl) (fun _ _ _ h => h) (Or.inl ⟨by rfl, ?_⟩) hHeld ?_
  rotate_left 1
  · (intro w hSw; have h := HCut2.out w; go_simp; try with_reducible rfl)
  try simp only [Act.put, List.setIfInBounds_toArray, List.set_cons_zero, List.set_cons_succ]
  refine stepL 9 (by kernel_rfl) rfl (fun K hK => ?_)
  go_simp
  refine (HEq.out W0 R0.out).mono ?_
  rintro e W1 ⟨rfl, hb⟩
  show K _ _
  have R1 := Bx.mk (R0.out.trans (hb.mono R0.out.size))
  clear hb
  refine hK.out _ _ (trivial) (fun hHeld => ?_)
  clear hK K
  try simp only [Act.put, List.setIfInBounds_toArray, List.set_cons_zero, List.set_cons_succ]
  refine takeL 10 (v := ?_) rfl (by kernel_rfl) (by kernel_rfl) (by kernel_rfl) (fun _ _ _ h => h) (Or.inl ⟨by rfl, ?_⟩) hHeld ?_
  rotate_left 1
  · (intro w hSw; go_simp; try with_reducible rfl)
  try simp only [Act.put, List.setIfInBounds_toArray, List.set_cons_zero, List.set_cons_succ]
  refine wpAnyH_done (by kernel_rfl) ?_ _
  refine NoPanic.normal ?_
  clear hHeld
  go_wp2
  go_ret2
  exact ⟨rfl, R1.out⟩
set_option maxRecDepth 100000 in
set_option maxHeartbeats 1000000 in
theorem joined_ok (l1 l2 r : List Int) (n : Nat) (v1 v2 : Value) (w : World) (h1 : IsL w v1 l1) (h2 : IsL w v2 l2) (hn : n ≤ l1.length) (hs1 : l1.length ≤ 1000) (hs2 : l2.length ≤ 1000) (hf : fitL l1 n l2) (hr : l1 ++ l2.drop (bothN l1 n l2) = r) (h64 : ∀ x ∈ r, in64 x) :
    Calls Tryd.prog 91 #[v1, .int .i64 (n : Int), v2] w fun e w' => ∃ v, e = .returned (.tuple #[v, .bool (!dupB r)]) ∧ IsL w' v r ∧ Below w.heap.size w w' := by
  obtain ⟨b, hb⟩ : ∃ b, bothN l1 n l2 = b := ⟨_, rfl⟩
  have hbl : n + b ≤ l1.length := by rw [← hb]; unfold bothN; omega
  have hbm : b ≤ l2.length := by rw [← hb]; unfold bothN; omega
  have hmin : min ((l1.length : Int) - (n : Int)) (l2.length : Int) = (b : Int) := by rw [← hb]; unfold bothN; omega
  obtain ⟨nb, hnb⟩ : ∃ nb, n + b = nb := ⟨_, rfl⟩
  have hP1 : ∀ W, Below w.heap.size w W → IsL W v1 l1 := fun W h => h1.later h
  have hP2 : ∀ W, Below w.heap.size w W → IsL W v2 l2 := fun W h => h2.later h
  obtain ⟨a1, c1, hv1⟩ := h1.form
  obtain ⟨a2, c2, hv2⟩ := h2.form
  subst hv1 hv2
  have hc1 : l1.length ≤ c1 := by
    obtain ⟨a', c', hv, hc, -⟩ := h1
    injection hv with e1 e2 e3
    rw [e3]; exact hc
  have hc2 : l2.length ≤ c2 := by
    obtain ⟨a', c', hv, hc, -⟩ := h2
    injection hv with e1 e2 e3
    rw [e3]; exact hc
  have HCut1 := Bx.mk (fun W => cut_lh a1 l1.length c1 n nb (by omega) (by omega) W)
  have HCut2 := Bx.mk (fun W => cut_h a2 l2.length c2 b (by omega) W)
  have HCut3 := Bx.mk (fun W => cut_l a2 l2.length c2 b hbm W)
  have HPa : Bx (∀ W, Below w.heap.size w W → IsL W (sl a1 c1 n nb) ((l1.take nb).drop n)) := ⟨fun W h => (hP1 W h).part n nb (by omega) (by omega)⟩
  have HPb : Bx (∀ W, Below w.heap.size w W → IsL W (.slice a2 b c2) (l2.take b)) := ⟨fun W h => (hP2 W h).cut b hbm c2 (by omega) (fun e => by
    obtain ⟨a', c', hv, _, hc, -⟩ := h2
    injection hv with e1 e2 e3
    rw [e3]; exact hc (e1.symm.trans e))⟩
  have HPc : Bx (∀ W, Below w.heap.size w W → IsL W (sl a2 c2 b l2.length) (l2.drop b)) := ⟨fun W h => by
    have h' := (hP2 W h).part b l2.length hbm (Nat.le_refl _)
    rw [List.take_length] at h'
    exact h'⟩
  have HPd := Bx.mk hP1
  have hl1 : (l1.length : Int) ≤ 1000 := by omega
  have hl2 : (l2.length : Int) ≤ 1000 := by omega
  have hn0 : (n : Int) ≤ (l1.length : Int) := by omega
  have hb1 : (b : Int) ≤ 1000 := by omega
  have hsum : (n : Int) + (b : Int) = (nb : Int) := by omega
  have hnb1 : (nb : Int) ≤ 1000 := by omega
  have hwr : IntKind.i64.wrap (nb : Int) = (nb : Int) := by rw [IntKind.wrap_i64]; omega
  have hnn : (n : Int) ≤ (nb : Int) := by omega
  have HL : Bx (l1.length ≤ 1000 ∧ l2.length ≤ 1000) := ⟨⟨hs1, hs2⟩⟩
  have HEq := Bx.mk (fun W (h : Below w.heap.size w W) => equal_any8 _ _ _ _ W (HPa.out W h) (HPb.out W h) (by rw [List.length_drop, List.length_take]; omega) (by rw [List.length_take]; omega))
  rw [decide_eq_true (by have h := hf; unfold fitL at h; rw [hb, hnb] at h; exact h)] at HEq
  rw [hb] at hr
  have HR := Bx.mk hr
  have H64 := Bx.mk h64
  have HRl : Bx (r.length ≤ 2000) := ⟨by rw [← hr, List.length_append, List.length_drop]; omega⟩
  clear hf hr h64
  clear hP1 hP2 h1 h2 hb hbl hbm hc1 hc2 hs1 hs2 hn hnb
  go_enter Tryd.func91, Tryd.ntmps91
  go_upto_region 2 with fail
  have R0 := Bx.mk (Below.refl w.heap.size w).drew
  refine wp_region_noPanic ?_
  refine wp_region_held_drew (S := fun _ => True) (by kernel_rfl) (trivial) (fun hHeld => ?_)
  generalize w.drew = W0 at *
  refine takeL 0 (v := ?_) rfl (by kernel_rfl) (by kernel_rfl) (by kernel_rfl) (fun _ _ _ h => h) (Or.inl ⟨by rfl, ?_⟩) hHeld ?_
  rotate_left 1
  · (intro w hSw; go_simp; try with_reducible rfl)
  try simp only [Act.put, List.setIfInBounds_toArray, List.set_cons_zero, List.set_cons_succ]
  refine takeL 1 (v := ?_) rfl (by kernel_rfl) (by kernel_rfl) (by kernel_rfl) (fun _ _ _ h => h) (Or.inl ⟨by rfl, ?_⟩) hHeld ?_
  rotate_left 1
  · (intro w hSw; go_simp; try with_reducible rfl)
  try simp only [Act.put, List.setIfInBounds_toArray, List.set_cons_zero, List.set_cons_succ]
  refine takeL 2 (v := ?_) rfl (by kernel_rfl) (by kernel_rfl) (by kernel_rfl) (fun _ _ _ h => h) (Or.inl ⟨by rfl, ?_⟩) hHeld ?_
  rotate_left 1
  · (intro w hSw; go_simp; try with_reducible rfl)
  try simp only [Act.put, List.setIfInBounds_toArray, List.set_cons_zero, List.set_cons_succ]
  refine takeL 3 (v := ?_) rfl (by kernel_rfl) (by kernel_rfl) (by kernel_rfl) (fun _ _ _ h => h) (Or.inl ⟨by rfl, ?_⟩) hHeld ?_
  rotate_left 1
  · (intro w hSw; go_simp; try with_reducible rfl)
  try simp only [Act.put, List.setIfInBounds_toArray, List.set_cons_zero, List.set_cons_succ]
  refine takeL 4 (v := ?_) rfl (by kernel_rfl) (by kernel_rfl) (by kernel_rfl) (fun _ _ _ h => h) (Or.inl ⟨by rfl, ?_⟩) hHeld ?_
  rotate_left 1
  · (intro w hSw; have h := hsum; have h2 := hwr; go_simp; try with_reducible rfl)
  try simp only [Act.put, List.setIfInBounds_toArray, List.set_cons_zero, List.set_cons_succ]
  refine takeL 5 (v := ?_) rfl (by kernel_rfl) (by kernel_rfl) (by kernel_rfl) (fun _ _ _ h => h) (Or.inl ⟨by rfl, ?_⟩) hHeld ?_
  rotate_left 1
  · (intro w hSw; have h := HCut1.out w; go_simp; try with_reducible rfl)
  try simp only [Act.put, List.setIfInBounds_toArray, List.set_cons_zero, List.set_cons_succ]
  refine takeL 6 (v := ?_) rfl (by kernel_rfl) (by kernel_rfl) (by kernel_rfl) (fun _ _ _ h => h) (Or.inl ⟨by rfl, ?_⟩) hHeld ?_
  rotate_left 1
  · (intro w hSw; go_simp; try with_reducible rfl)
  try simp only [Act.put, List.setIfInBounds_toArray, List.set_cons_zero, List.set_cons_succ]
  refine takeL 7 (v := ?_) rfl (by kernel_rfl) (by kernel_rfl) (by kernel_rfl) (fun _ _ _ h => h) (Or.inl ⟨by rfl, ?_⟩) hHeld ?_
  rotate_left 1
  · (intro w hSw; go_simp; try with_reducible rfl)
  try simp only [Act.put, List.setIfInBounds_toArray, List.set_cons_zero, List.set_cons_succ]
  refine takeL 8 (v := ?_) rfl (by kernel_rfl) (by kernel_rfl) (by kernel_rfl) (fun _ _ _ h => h) (Or.inl ⟨by rfl, ?_⟩) hHeld ?_
  rotate_left 1
  · (intro w hSw; have h := HCut2.out w; go_simp; try with_reducible rfl)
  try simp only [Act.put, List.setIfInBounds_toArray, List.set_cons_zero, List.set_cons_succ]
  refine stepL 9 (by kernel_rfl) rfl (fun K hK => ?_)
  go_simp
  refine (HEq.out W0 R0.out).mono ?_
  rintro e W1 ⟨rfl, hb⟩
  show K _ _
  have R1 := Bx.mk (R0.out.trans (hb.mono R0.out.size))
  clear hb
  refine hK.out _ _ (trivial) (fun hHeld => ?_)
  clear hK K
  try simp only [Act.put, List.setIfInBounds_toArray, List.set_cons_zero, List.set_cons_succ]
  refine takeL 10 (v := ?_) rfl (by kernel_rfl) (by kernel_rfl) (by kernel_rfl) (fun _ _ _ h => h) (Or.inl ⟨by rfl, ?_⟩) hHeld ?_
  rotate_left 1
  · (intro w hSw; go_simp; try with_reducible rfl)
  try simp only [Act.put, List.setIfInBounds_toArray, List.set_cons_zero, List.set_cons_succ]
  refine wpAnyH_done (by kernel_rfl) ?_ _
  refine NoPanic.normal ?_
  clear hHeld
  have h3 := HCut3.out
  go_wp2_with fail
  refine (longer_any l1 (l2.drop b) _ _ W1 (HPd.out W1 R1.out) (HPc.out W1 R1.out) (by rw [List.length_drop]; have := HL.out; omega)).mono ?_
  rintro e w5 ⟨v5, rfl, h5, hb5⟩
  rw [HR.out] at h5
  obtain ⟨a5, c5, hv5⟩ := h5.form
  subst hv5
  have H5 := Bx.mk h5
  have R2 := Bx.mk (R1.out.trans (hb5.mono R1.out.size))
  clear h5 hb5 HCut1 HCut2 HCut3 HPa HPb HPc HPd HEq h3
  go_wp2_with fail
  refine (twice_any r _ w5 H5.out (by have := HRl.out; omega) H64.out).mono ?_
  rintro e w6 ⟨rfl, hb6⟩
  have H6 := Bx.mk (H5.out.later hb6)
  have R3 := Bx.mk (R2.out.trans (hb6.mono R2.out.size))
  clear hb6 H5 R2 R1
  go_wp2
  go_ret2
  exact ⟨_, rfl, H6.out, R3.out⟩
end Go.Proofs.YtnfgamekjbkbkaaDoor
namespace Go.Proofs.YtnfgamekjbkbkaaDoor
open Go Go.RowKit
/-- The versions of a set that takes nothing more. -/
def Full (w : World) : Prop := w.rangeAt 0 0 [.int .i64 256, .int .i64 256, .int .i64 256, .int .i64 256]
theorem Full.later {w w1 : World} (h : Full w) {B : Nat} (hb : Below B w w1) (h0 : 0 < B) : Full w1 := fun j v hv => by
  rw [hb.cell (p := ⟨0, 0 + j, none⟩) h0]
  exact h j v hv
def full4 : V4 := ⟨256, 256, 256, 256⟩
def withinB (v : V4) (l : L4) : Bool := allS l.a && (allS l.b && (allS l.c && (allS l.d && (covV v V4.zero && covV full4 v))))
structure Most (l : L4) (n : Nat) : Prop where
  a : l.a.length ≤ n
  b : l.b.length ≤ n
  c : l.c.length ≤ n
  d : l.d.length ≤ n
def okJ (l1 : List Int) (n : Nat) (l2 : List Int) : Bool := decide (fitL l1 n l2) && !dupB (l1 ++ l2.drop (bothN l1 n l2))
def newJ (l1 : List Int) (n : Nat) (l2 : List Int) : List Int := l1 ++ l2.drop (bothN l1 n l2)
theorem newJ_in {l1 l2 : List Int} {n : Nat} (h1 : ∀ x ∈ l1, okS x = true) (h2 : ∀ x ∈ l2, okS x = true) : ∀ x ∈ newJ l1 n l2, okS x = true := fun x hx => by
  rcases List.mem_append.1 hx with hx | hx
  · exact h1 x hx
  · exact h2 x (List.mem_of_mem_drop hx)
theorem newJ_len (l1 l2 : List Int) (n : Nat) : (newJ l1 n l2).length ≤ l1.length + l2.length := by
  unfold newJ
  rw [List.length_append, List.length_drop]
  omega
theorem joined_yes (l1 l2 : List Int) (n : Nat) (v1 v2 : Value) (w : World) (h1 : IsL w v1 l1) (h2 : IsL w v2 l2) (hn : n ≤ l1.length) (hs1 : l1.length ≤ 1000) (hs2 : l2.length ≤ 1000) (hk1 : ∀ x ∈ l1, okS x = true) (hk2 : ∀ x ∈ l2, okS x = true) (hj : okJ l1 n l2 = true) :
    Calls Tryd.prog 91 #[v1, .int .i64 (n : Int), v2] w fun e w' => ∃ v, e = .returned (.tuple #[v, .bool true]) ∧ IsL w' v (newJ l1 n l2) ∧ Below w.heap.size w w' := by
  unfold okJ at hj
  simp only [Bool.and_eq_true, decide_eq_true_eq, Bool.not_eq_true'] at hj
  refine (joined_ok l1 l2 _ n v1 v2 w h1 h2 hn hs1 hs2 hj.1 rfl (fun x hx => okS_in (newJ_in hk1 hk2 x hx))).mono ?_
  rintro e w' ⟨v, rfl, h⟩
  rw [hj.2]
  exact ⟨v, rfl, h⟩
theorem joined_no (l1 l2 : List Int) (n : Nat) (v1 v2 : Value) (w : World) (h1 : IsL w v1 l1) (h2 : IsL w v2 l2) (hn : n ≤ l1.length) (hs1 : l1.length ≤ 1000) (hs2 : l2.length ≤ 1000) (hk1 : ∀ x ∈ l1, okS x = true) (hk2 : ∀ x ∈ l2, okS x = true) (hj : okJ l1 n l2 = false) :
    Calls Tryd.prog 91 #[v1, .int .i64 (n : Int), v2] w fun e w' => ∃ a n c, e = .returned (.tuple #[.slice a n c, .bool false]) ∧ Below w.heap.size w w' := by
  unfold okJ at hj
  by_cases hf : fitL l1 n l2
  · rw [decide_eq_true hf, Bool.true_and] at hj
    refine (joined_ok l1 l2 _ n v1 v2 w h1 h2 hn hs1 hs2 hf rfl (fun x hx => okS_in (newJ_in hk1 hk2 x hx))).mono ?_
    rintro e w' ⟨v, rfl, hv, hb⟩
    rw [hj]
    obtain ⟨a, c, rfl⟩ := hv.form
    exact ⟨_, _, _, rfl, hb⟩
  · refine (joined_bad l1 l2 n v1 v2 w h1 h2 hn hs1 hs2 hf).mono ?_
    rintro e w' ⟨rfl, hb⟩
    exact ⟨_, _, _, rfl, hb⟩
set_option maxRecDepth 100000 in
set_option maxHeartbeats 2000000 in
theorem within_any (v : V4) (x : VV) (l : L4) (w : World) (hx : Rows4 w x l) (hm : Most l 1000) (hF : Full w) (hg : 0 < w.heap.size) : Calls Tryd.prog 46 #[.agg (dC v x)] w fun e w' => e = .returned (.bool (withinB v l)) ∧ Below w.heap.size w w' := by
  obtain ⟨z, hz⟩ : ∃ z, withinB v l = z := ⟨_, rfl⟩
  rw [hz]
  have HZ := Bx.mk hz
  obtain ⟨E, hE⟩ : ∃ E, w.heap.size = E := ⟨_, rfl⟩
  have HX : Bx (∀ W, Below w.heap.size w W → Rows4 W x l) := ⟨fun W h => hx.later h⟩
  have HF : Bx (∀ W, Below w.heap.size w W → Full W) := ⟨fun W h => hF.later h hg⟩
  have HM := Bx.mk hm
  obtain ⟨p1, q1, t1, s1, a1, b1, c1, d1, rfl⟩ := hx.forms
  clear hz hx hm hF hg
  unfold dC
  simp only
  have K0 : Bx (KR w E [(E, (.cells #[.int .i64 v.a, .int .i64 v.b, .int .i64 v.c, .int .i64 v.d, .slice p1 l.a.length a1, .slice q1 l.b.length b1, .slice t1 l.c.length c1, .slice s1 l.d.length d1] 30))] (w.alloc (.cells #[.int .i64 v.a, .int .i64 v.b, .int .i64 v.c, .int .i64 v.d, .slice p1 l.a.length a1, .slice q1 l.b.length b1, .slice t1 l.c.length c1, .slice s1 l.d.length d1] 30))) := Bx.mk (by
    subst hE
    exact (KR.start w).new (.cells #[.int .i64 v.a, .int .i64 v.b, .int .i64 v.c, .int .i64 v.d, .slice p1 l.a.length a1, .slice q1 l.b.length b1, .slice t1 l.c.length c1, .slice s1 l.d.length d1] 30))
  have hc : ∀ i u, (#[.int .i64 v.a, .int .i64 v.b, .int .i64 v.c, .int .i64 v.d, .slice p1 l.a.length a1, .slice q1 l.b.length b1, .slice t1 l.c.length c1, .slice s1 l.d.length d1] : Array Value)[i]? = some u → (w.alloc (.cells #[.int .i64 v.a, .int .i64 v.b, .int .i64 v.c, .int .i64 v.d, .slice p1 l.a.length a1, .slice q1 l.b.length b1, .slice t1 l.c.length c1, .slice s1 l.d.length d1] 30)).cell? ⟨E, i, none⟩ = some u := fun i u h => by
    rw [cell_of_row _ _ _ _ _ _ (K0.out.rows _ (.head _))]
    exact h
  have k4 := hc 4 _ rfl
  have k5 := hc 5 _ rfl
  have k6 := hc 6 _ rfl
  have k7 := hc 7 _ rfl
  have i0 := idxL0 (.slice p1 l.a.length a1) (.slice q1 l.b.length b1) (.slice t1 l.c.length c1) (.slice s1 l.d.length d1)
  have i1 := idxL1 (.slice p1 l.a.length a1) (.slice q1 l.b.length b1) (.slice t1 l.c.length c1) (.slice s1 l.d.length d1)
  have i2 := idxL2 (.slice p1 l.a.length a1) (.slice q1 l.b.length b1) (.slice t1 l.c.length c1) (.slice s1 l.d.length d1)
  have i3 := idxL3 (.slice p1 l.a.length a1) (.slice q1 l.b.length b1) (.slice t1 l.c.length c1) (.slice s1 l.d.length d1)
  clear hc
  rw [hE] at HX HF ⊢
  go_enter Tryd.func46, Tryd.ntmps46
  go_wp2
  generalize w.alloc (.cells #[.int .i64 v.a, .int .i64 v.b, .int .i64 v.c, .int .i64 v.d, .slice p1 l.a.length a1, .slice q1 l.b.length b1, .slice t1 l.c.length c1, .slice s1 l.d.length d1] 30) = w0 at *
  clear k4 k5 k6 k7
  refine wp_loop_rounds 5 ?_
  rw [rounds_succ]
  go_wp2_with fail
  refine (allSerials_any l.a _ w0 (HX.out w0 K0.out.below).a (by have := HM.out.a; omega)).mono ?_
  rintro e w1 ⟨rfl, hb⟩
  have K1 := Bx.mk (K0.out.later hb)
  clear hb K0
  cases h0 : allS l.a with
  | false =>
    have HE : Bx (z = false) := ⟨by rw [← HZ.out]; unfold withinB; rw [h0]; simp⟩
    go_wp2
    go_ret
    exact ⟨by rw [HE.out]; rfl, K1.out.below⟩
  | true =>
  go_wp2
  rw [rounds_succ]
  go_wp2_with fail
  refine (allSerials_any l.b _ w1 (HX.out w1 K1.out.below).b (by have := HM.out.b; omega)).mono ?_
  rintro e w2 ⟨rfl, hb⟩
  have K2 := Bx.mk (K1.out.later hb)
  clear hb K1
  cases h1 : allS l.b with
  | false =>
    have HE : Bx (z = false) := ⟨by rw [← HZ.out]; unfold withinB; rw [h1]; simp⟩
    go_wp2
    go_ret
    exact ⟨by rw [HE.out]; rfl, K2.out.below⟩
  | true =>
  go_wp2
  rw [rounds_succ]
  go_wp2_with fail
  refine (allSerials_any l.c _ w2 (HX.out w2 K2.out.below).c (by have := HM.out.c; omega)).mono ?_
  rintro e w3 ⟨rfl, hb⟩
  have K3 := Bx.mk (K2.out.later hb)
  clear hb K2
  cases h2 : allS l.c with
  | false =>
    have HE : Bx (z = false) := ⟨by rw [← HZ.out]; unfold withinB; rw [h2]; simp⟩
    go_wp2
    go_ret
    exact ⟨by rw [HE.out]; rfl, K3.out.below⟩
  | true =>
  go_wp2
  rw [rounds_succ]
  go_wp2_with fail
  refine (allSerials_any l.d _ w3 (HX.out w3 K3.out.below).d (by have := HM.out.d; omega)).mono ?_
  rintro e w4 ⟨rfl, hb⟩
  have K4 := Bx.mk (K3.out.later hb)
  clear hb K3
  cases h3 : allS l.d with
  | false =>
    have HE : Bx (z = false) := ⟨by rw [← HZ.out]; unfold withinB; rw [h3]; simp⟩
    go_wp2
    go_ret
    exact ⟨by rw [HE.out]; rfl, K4.out.below⟩
  | true =>
  go_wp2
  rw [rounds_succ]
  have HZ2 : Bx (z = (covV v V4.zero && covV full4 v)) := ⟨by rw [← HZ.out]; unfold withinB; rw [h0, h1, h2, h3]; simp⟩
  clear h0 h1 h2 h3 HZ i0 i1 i2 i3 HX
  have HC1 := Bx.mk (fun W => covers_any8 v V4.zero W)
  have HC2 := Bx.mk (fun W => covers_any8 full4 v W)
  unfold V4.v at HC1 HC2
  simp only [V4.zero, full4] at HC1 HC2 HZ2
  generalize covV v ⟨0, 0, 0, 0⟩ = y1 at *
  generalize covV ⟨256, 256, 256, 256⟩ v = y2 at *
  have hbv := build_vers
  have k0 : w4.cell? ⟨E, 0, none⟩ = some (.int .i64 v.a) := by rw [cell_of_row _ _ _ _ _ _ (K4.out.rows _ (.head _))]; rfl
  have k1 : w4.cell? ⟨E, 1, none⟩ = some (.int .i64 v.b) := by rw [cell_of_row _ _ _ _ _ _ (K4.out.rows _ (.head _))]; rfl
  have k2 : w4.cell? ⟨E, 2, none⟩ = some (.int .i64 v.c) := by rw [cell_of_row _ _ _ _ _ _ (K4.out.rows _ (.head _))]; rfl
  have k3 : w4.cell? ⟨E, 3, none⟩ = some (.int .i64 v.d) := by rw [cell_of_row _ _ _ _ _ _ (K4.out.rows _ (.head _))]; rfl
  have f0 : w4.cell? ⟨0, 0, none⟩ = some (.int .i64 256) := (HF.out _ K4.out.below) 0 _ rfl
  have f1 : w4.cell? ⟨0, 1, none⟩ = some (.int .i64 256) := (HF.out _ K4.out.below) 1 _ rfl
  have f2 : w4.cell? ⟨0, 2, none⟩ = some (.int .i64 256) := (HF.out _ K4.out.below) 2 _ rfl
  have f3 : w4.cell? ⟨0, 3, none⟩ = some (.int .i64 256) := (HF.out _ K4.out.below) 3 _ rfl
  cases y1 with
  | false =>
    go_wp2_with fail
    refine (HC1.out w4).mono ?_
    rintro e w5 ⟨rfl, hb⟩
    have K5 := Bx.mk (K4.out.later hb)
    clear hb K4
    clear k0 f0 k1 f1 k2 f2 k3 f3
    have k0 : w5.cell? ⟨E, 0, none⟩ = some (.int .i64 v.a) := by rw [cell_of_row _ _ _ _ _ _ (K5.out.rows _ (.head _))]; rfl
    have k1 : w5.cell? ⟨E, 1, none⟩ = some (.int .i64 v.b) := by rw [cell_of_row _ _ _ _ _ _ (K5.out.rows _ (.head _))]; rfl
    have k2 : w5.cell? ⟨E, 2, none⟩ = some (.int .i64 v.c) := by rw [cell_of_row _ _ _ _ _ _ (K5.out.rows _ (.head _))]; rfl
    have k3 : w5.cell? ⟨E, 3, none⟩ = some (.int .i64 v.d) := by rw [cell_of_row _ _ _ _ _ _ (K5.out.rows _ (.head _))]; rfl
    have f0 : w5.cell? ⟨0, 0, none⟩ = some (.int .i64 256) := (HF.out _ K5.out.below) 0 _ rfl
    have f1 : w5.cell? ⟨0, 1, none⟩ = some (.int .i64 256) := (HF.out _ K5.out.below) 1 _ rfl
    have f2 : w5.cell? ⟨0, 2, none⟩ = some (.int .i64 256) := (HF.out _ K5.out.below) 2 _ rfl
    have f3 : w5.cell? ⟨0, 3, none⟩ = some (.int .i64 256) := (HF.out _ K5.out.below) 3 _ rfl
    go_wp2
    go_ret
    exact ⟨ret_bool (by rw [HZ2.out]; rfl), K5.out.below⟩
  | true =>
    go_wp2_with fail
    refine (HC1.out w4).mono ?_
    rintro e w5 ⟨rfl, hb⟩
    have K5 := Bx.mk (K4.out.later hb)
    clear hb K4
    clear k0 f0 k1 f1 k2 f2 k3 f3
    have k0 : w5.cell? ⟨E, 0, none⟩ = some (.int .i64 v.a) := by rw [cell_of_row _ _ _ _ _ _ (K5.out.rows _ (.head _))]; rfl
    have k1 : w5.cell? ⟨E, 1, none⟩ = some (.int .i64 v.b) := by rw [cell_of_row _ _ _ _ _ _ (K5.out.rows _ (.head _))]; rfl
    have k2 : w5.cell? ⟨E, 2, none⟩ = some (.int .i64 v.c) := by rw [cell_of_row _ _ _ _ _ _ (K5.out.rows _ (.head _))]; rfl
    have k3 : w5.cell? ⟨E, 3, none⟩ = some (.int .i64 v.d) := by rw [cell_of_row _ _ _ _ _ _ (K5.out.rows _ (.head _))]; rfl
    have f0 : w5.cell? ⟨0, 0, none⟩ = some (.int .i64 256) := (HF.out _ K5.out.below) 0 _ rfl
    have f1 : w5.cell? ⟨0, 1, none⟩ = some (.int .i64 256) := (HF.out _ K5.out.below) 1 _ rfl
    have f2 : w5.cell? ⟨0, 2, none⟩ = some (.int .i64 256) := (HF.out _ K5.out.below) 2 _ rfl
    have f3 : w5.cell? ⟨0, 3, none⟩ = some (.int .i64 256) := (HF.out _ K5.out.below) 3 _ rfl
    go_wp2_with fail
    refine (HC2.out w5).mono ?_
    rintro e w6 ⟨rfl, hb⟩
    have K6 := Bx.mk (K5.out.later hb)
    clear hb K5
    clear k0 f0 k1 f1 k2 f2 k3 f3
    go_wp2
    go_ret
    exact ⟨ret_bool (by rw [HZ2.out]; rfl), K6.out.below⟩
end Go.Proofs.YtnfgamekjbkbkaaDoor
