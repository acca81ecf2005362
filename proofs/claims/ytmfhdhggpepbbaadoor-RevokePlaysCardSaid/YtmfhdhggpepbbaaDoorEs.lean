/-
  Revocations: four rows put one behind the other.
-/
import Derived.Test.YtmfhdhggpepbbaaDoorEr
namespace Go.Proofs.YtmfhdhggpepbbaaDoor
open Go Go.RowKit
set_option maxRecDepth 100000 in
set_option maxHeartbeats 2000000 in
theorem concat8 (G : Nat) (x : VV) (l : L4) (w : World) (hG : w.heap[G]? = some (.cells #[x.a, x.b, x.c, x.d] 27 (0, 0))) (hx : Rows4 w x l) (ha : l.a.length ≤ 1000) (hb : l.b.length ≤ 1000) (hc : l.c.length ≤ 1000) (hd : l.d.length ≤ 1000) :
    Calls Tryd.prog 67 #[.slice (some ⟨G, 0, none⟩) 4 4] w fun e w' => ∃ v, e = .returned v ∧ OwnI w' w.heap.size v (l.a ++ l.b ++ l.c ++ l.d) ∧ Below w.heap.size w w' := by
  obtain ⟨p1, q1, t1, s1, a1, b1, c1, d1, rfl⟩ := hx.forms
  have HX := Bx.mk hx
  have HGw := Bx.mk hG
  have HGl := Bx.mk (Array.getElem?_eq_some_iff.1 hG).1
  obtain ⟨⟨k0, k1, k2, k3⟩, -, -, -, -⟩ := row_four hG
  have ha1 : (l.a.length : Int) ≤ 1000 := by omega
  have hb1 : (l.b.length : Int) ≤ 1000 := by omega
  have hc1 : (l.c.length : Int) ≤ 1000 := by omega
  have hd1 : (l.d.length : Int) ≤ 1000 := by omega
  have HL := Bx.mk (And.intro ha (And.intro hb (And.intro hc hd)))
  have HGr := Bx.mk (grow8 (l.a.length + l.b.length + l.c.length + l.d.length) w (by omega))
  obtain ⟨la, hla⟩ : ∃ n, l.a.length = n := ⟨_, rfl⟩
  obtain ⟨lb, hlb⟩ : ∃ n, l.b.length = n := ⟨_, rfl⟩
  obtain ⟨lc, hlc⟩ : ∃ n, l.c.length = n := ⟨_, rfl⟩
  obtain ⟨ld, hld⟩ : ∃ n, l.d.length = n := ⟨_, rfl⟩
  have HN := Bx.mk (And.intro hla (And.intro hlb (And.intro hlc hld)))
  rw [hla, hlb, hlc, hld] at HL HGr HX HGw
  rw [hla] at ha1 k0
  rw [hlb] at hb1 k1
  rw [hlc] at hc1 k2
  rw [hld] at hd1 k3
  have a0 : (0 : Int) ≤ (la : Int) := by omega
  have b0 : (0 : Int) ≤ (lb : Int) := by omega
  have c0 : (0 : Int) ≤ (lc : Int) := by omega
  have d0 : (0 : Int) ≤ (ld : Int) := by omega
  obtain ⟨E, hE⟩ : ∃ E, w.heap.size = E := ⟨_, rfl⟩
  rw [hE] at HGr HGl ⊢
  have HE := Bx.mk hE
  clear hG hx ha hb hc hd hla hlb hlc hld hE
  go_enter Tryd.func67, Tryd.ntmps67
  go_wp2
  refine wp_loop_rounds 5 ?_
  rw [rounds_succ]
  go_wp2
  rw [rounds_succ]
  go_wp2
  rw [rounds_succ]
  go_wp2
  rw [rounds_succ]
  go_wp2
  rw [rounds_succ]
  go_wp2_with fail
  clear k0 k1 k2 k3 ha1 hb1 hc1 hd1 a0 b0 c0 d0
  have e0 : ((la + lb + lc + ld : Nat) : Int) = (la : Int) + (lb : Int) + (lc : Int) + (ld : Int) := by omega
  rw [e0] at HGr
  clear e0
  refine HGr.out.mono ?_
  rintro e w1 ⟨v, rfl, ho, hb⟩
  obtain ⟨z0, f0, rfl⟩ := ho.form
  have HO0 := Bx.mk ho
  have HB0 := Bx.mk hb
  have HA0 : Bx (([] : List Int).length ≤ 0) := ⟨Nat.le_refl _⟩
  clear ho hb HGr
  go_wp2
  refine wp_loop_rounds 5 ?_
  rw [rounds_succ]
  have k0 : w1.cell? ⟨G, 0, none⟩ = some (.slice p1 la a1) := by rw [cell_of_row _ _ _ _ _ _ (by rw [HB0.out.block G HGl.out]; exact HGw.out)]; rfl
  go_wp2_with (refine wpList_apI rfl _ _ rfl E _ ([] : List Int) (by rfl) HO0.out _ l.a (by rfl) ((HX.out.later (by rw [HE.out]; exact HB0.out)).a.ints) (by have := HA0.out; have := HL.out; have := HN.out; omega) (by have := HB0.out.size; rw [HE.out] at this; exact this) ?_; intro v0 w2 ho hg; have HB1 : Bx (Below E w w2) := ⟨HB0.out.trans (ownI_below HO0.out hg (by have := HB0.out.size; rw [HE.out] at this; exact this))⟩; obtain ⟨r1, hr⟩ : ∃ r, ([] : List Int) ++ l.a = r := ⟨_, rfl⟩; rw [hr] at ho; have HA1 : Bx (r1.length ≤ 1000) := ⟨by rw [← hr, List.length_append]; have := HA0.out; have := HL.out; have := HN.out; omega⟩; have HR1 := Bx.mk hr; obtain ⟨z1, f1, hv⟩ := ho.form; subst hv; have HO1 := Bx.mk ho; clear ho hg hr k0 HO0 HB0 HA0)
  rw [rounds_succ]
  have k1 : w2.cell? ⟨G, 1, none⟩ = some (.slice q1 lb b1) := by rw [cell_of_row _ _ _ _ _ _ (by rw [HB1.out.block G HGl.out]; exact HGw.out)]; rfl
  go_wp2_with (refine wpList_apI rfl _ _ rfl E _ r1 (by rfl) HO1.out _ l.b (by rfl) ((HX.out.later (by rw [HE.out]; exact HB1.out)).b.ints) (by have := HA1.out; have := HL.out; have := HN.out; omega) (by have := HB1.out.size; rw [HE.out] at this; exact this) ?_; intro v1 w3 ho hg; have HB2 : Bx (Below E w w3) := ⟨HB1.out.trans (ownI_below HO1.out hg (by have := HB1.out.size; rw [HE.out] at this; exact this))⟩; obtain ⟨r2, hr⟩ : ∃ r, r1 ++ l.b = r := ⟨_, rfl⟩; rw [hr] at ho; have HA2 : Bx (r2.length ≤ 2000) := ⟨by rw [← hr, List.length_append]; have := HA1.out; have := HL.out; have := HN.out; omega⟩; have HR2 := Bx.mk hr; obtain ⟨z2, f2, hv⟩ := ho.form; subst hv; have HO2 := Bx.mk ho; clear ho hg hr k1 HO1 HB1 HA1)
  rw [rounds_succ]
  have k2 : w3.cell? ⟨G, 2, none⟩ = some (.slice t1 lc c1) := by rw [cell_of_row _ _ _ _ _ _ (by rw [HB2.out.block G HGl.out]; exact HGw.out)]; rfl
  go_wp2_with (refine wpList_apI rfl _ _ rfl E _ r2 (by rfl) HO2.out _ l.c (by rfl) ((HX.out.later (by rw [HE.out]; exact HB2.out)).c.ints) (by have := HA2.out; have := HL.out; have := HN.out; omega) (by have := HB2.out.size; rw [HE.out] at this; exact this) ?_; intro v2 w4 ho hg; have HB3 : Bx (Below E w w4) := ⟨HB2.out.trans (ownI_below HO2.out hg (by have := HB2.out.size; rw [HE.out] at this; exact this))⟩; obtain ⟨r3, hr⟩ : ∃ r, r2 ++ l.c = r := ⟨_, rfl⟩; rw [hr] at ho; have HA3 : Bx (r3.length ≤ 3000) := ⟨by rw [← hr, List.length_append]; have := HA2.out; have := HL.out; have := HN.out; omega⟩; have HR3 := Bx.mk hr; obtain ⟨z3, f3, hv⟩ := ho.form; subst hv; have HO3 := Bx.mk ho; clear ho hg hr k2 HO2 HB2 HA2)
  rw [rounds_succ]
  have k3 : w4.cell? ⟨G, 3, none⟩ = some (.slice s1 ld d1) := by rw [cell_of_row _ _ _ _ _ _ (by rw [HB3.out.block G HGl.out]; exact HGw.out)]; rfl
  go_wp2_with (refine wpList_apI rfl _ _ rfl E _ r3 (by rfl) HO3.out _ l.d (by rfl) ((HX.out.later (by rw [HE.out]; exact HB3.out)).d.ints) (by have := HA3.out; have := HL.out; have := HN.out; omega) (by have := HB3.out.size; rw [HE.out] at this; exact this) ?_; intro v3 w5 ho hg; have HB4 : Bx (Below E w w5) := ⟨HB3.out.trans (ownI_below HO3.out hg (by have := HB3.out.size; rw [HE.out] at this; exact this))⟩; obtain ⟨r4, hr⟩ : ∃ r, r3 ++ l.d = r := ⟨_, rfl⟩; rw [hr] at ho; have HA4 : Bx (r4.length ≤ 4000) := ⟨by rw [← hr, List.length_append]; have := HA3.out; have := HL.out; have := HN.out; omega⟩; have HR4 := Bx.mk hr; obtain ⟨z4, f4, hv⟩ := ho.form; subst hv; have HO4 := Bx.mk ho; clear ho hg hr k3 HO3 HB3 HA3)
  rw [rounds_succ]
  go_wp2
  go_ret
  refine ⟨_, rfl, ?_, HB4.out⟩
  have e4 : r4 = l.a ++ l.b ++ l.c ++ l.d := by rw [← HR4.out, ← HR3.out, ← HR2.out, ← HR1.out, List.nil_append]
  rw [← e4]
  exact HO4.out
end Go.Proofs.YtmfhdhggpepbbaaDoor
