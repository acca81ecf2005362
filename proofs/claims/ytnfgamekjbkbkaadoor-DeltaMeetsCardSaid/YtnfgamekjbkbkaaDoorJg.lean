/-
  Revocations: the document's set: Revoke, Has.
-/
import Derived.Test.YtnfgamekjbkbkaaDoorJe
import Derived.Test.YtnfgamekjbkbkaaDoorEo
namespace Go.Proofs.YtnfgamekjbkbkaaDoor
open Go Go.RowKit
/-- The document's set in its block. -/
def RAt (W : World) (q : Nat) (l : L4) : Prop := ∃ x : VV, W.heap[q]? = some (.cells #[x.a, x.b, x.c, x.d] 79 (0, 0)) ∧ Rows4 W x l
theorem RAt.lt {W : World} {q : Nat} {l : L4} (h : RAt W q l) : q < W.heap.size := by
  obtain ⟨x, hx, -⟩ := h
  exact (Array.getElem?_eq_some_iff.1 hx).1
theorem RAt.later {W W1 : World} {q : Nat} {l : L4} (h : RAt W q l) (hb : Below W.heap.size W W1) : RAt W1 q l := by
  obtain ⟨x, hx, hr⟩ := h
  exact ⟨x, by rw [hb.block q (Array.getElem?_eq_some_iff.1 hx).1]; exact hx, hr.later hb⟩
theorem rs_int : (79 : TypeId) ≠ 3 := by decide
theorem RAt.far {W W1 : World} {p D : Nat} {l : L4} {T : TypeId} {cs : Array Value} {fr : Nat × Nat} (h : RAt W p l) (hg : W.grownBy W1 (some D)) (hD : W.heap[D]? = some (.cells cs T fr)) (hT : T ≠ 3) (hne : p ≠ D) : RAt W1 p l := by
  obtain ⟨x, hx, hr⟩ := h
  exact ⟨x, by rw [hg.block p (Array.getElem?_eq_some_iff.1 hx).1 (fun e => hne (Option.some.inj e))]; exact hx, hr.grown hg hD hT⟩
theorem rrev_out (n : Int) (pt : Option Addr) (v : Value) (w : World) (hn : ¬ (0 ≤ n ∧ n < 4)) : Calls Tryd.prog 61 #[.pointer pt, .int .i64 n, v] w fun e w' => e = .returned (.int .i64 10) ∧ w' = w := by
  by_cases h : n < 0
  · go_enter Tryd.func61, Tryd.ntmps61
    go_wp2
    go_ret
    exact ⟨rfl, rfl⟩
  · have h1 : 3 < n := by omega
    clear hn
    go_enter Tryd.func61, Tryd.ntmps61
    go_wp2
    go_ret
    exact ⟨rfl, rfl⟩
theorem rrev_bad (n : Int) (pt : Option Addr) (v : Value) (m : List Int) (w : World) (hn : 0 ≤ n ∧ n < 4) (hv : IsL w v m) (hm : m.length ≤ 1000) (ha : allS m = false) : Calls Tryd.prog 61 #[.pointer pt, .int .i64 n, v] w fun e w' => e = .returned (.int .i64 10) ∧ w' = w := by
  have h1 : ¬ n < 0 := by omega
  have h2 : ¬ 3 < n := by omega
  have HR := Bx.mk (rright8 m v w hv (by omega))
  rw [ha] at HR
  obtain ⟨a, c, rfl⟩ := hv.form
  clear hn hv hm ha
  go_enter Tryd.func61, Tryd.ntmps61
  go_wp2_with fail
  refine HR.out.mono ?_
  rintro e w1 ⟨rfl, rfl⟩
  go_wp2
  go_ret
  exact ⟨rfl, rfl⟩
set_option maxRecDepth 100000 in
set_option maxHeartbeats 1000000 in
theorem rrev_0 (v : Value) (m : List Int) (q : Nat) (l : L4) (w : World) (hs : RAt w q l) (hg : l.a.length ≤ 256) (hv : IsL w v m) (hm : m.length ≤ 1000) (ha : allS m = true) : Calls Tryd.prog 61 #[.pointer (some ⟨q, 0, none⟩), .int .i64 0, v] w fun e w' =>
    e = .returned (.int .i64 (if dupB (l.a ++ m) = true then (8, l) else if 256 < (l.a ++ m).length then (6, l) else (0, { l with a := l.a ++ m }) : Int × L4).1) ∧ RAt w' q (if dupB (l.a ++ m) = true then (8, l) else if 256 < (l.a ++ m).length then (6, l) else (0, { l with a := l.a ++ m }) : Int × L4).2 ∧ w.grownBy w' (some q) := by
  obtain ⟨r, hr⟩ : ∃ r, l.a ++ m = r := ⟨_, rfl⟩
  rw [hr]
  obtain ⟨R, hR⟩ : ∃ R, (if dupB r = true then (8, l) else if 256 < r.length then (6, l) else (0, { l with a := r }) : Int × L4) = R := ⟨_, rfl⟩
  rw [hR]
  have HRes := Bx.mk hR
  clear hR
  have hrl : r.length ≤ 1256 := by rw [← hr, List.length_append]; omega
  obtain ⟨E, hE⟩ : ∃ E, w.heap.size = E := ⟨_, rfl⟩
  obtain ⟨y, hy, hrw⟩ := hs
  have hq := (Array.getElem?_eq_some_iff.1 hy).1
  rw [hE] at hq
  have HR := Bx.mk (rright8 m v w hv (by omega))
  rw [ha] at HR
  obtain ⟨a, c, hvf⟩ := hv.form
  subst hvf
  obtain ⟨au, cu, hyf⟩ := hrw.a.form
  have HB0 := Bx.mk (below_a (W := w) (.cells #[] 3))
  have k0 : (w.alloc (.cells #[] 3)).cell? ⟨q, 0, none⟩ = some (.slice au l.a.length cu) := by
    rw [cell_of_row _ _ _ _ _ _ ((hold _ _ _ (by omega)).trans hy), ← hyf]
    rfl
  have hO0 := ownI_empty w E (by omega)
  rw [hE] at hO0
  have HO0 := Bx.mk hO0
  clear hO0
  have HA := Bx.mk (And.intro hy (And.intro hrw hv))
  have HW : Bx (∀ W, Below E w W → W.heap[q]? = some (.cells #[y.a, y.b, y.c, y.d] 79 (0, 0)) ∧ Rows4 W y l ∧ IsL W (.slice a m.length c) m) := ⟨fun W h => ⟨by rw [h.block q hq]; exact hy, hrw.later (by rw [hE]; exact h), hv.later (by rw [hE]; exact h)⟩⟩
  rw [hE] at HB0
  have HL := Bx.mk (And.intro hg (And.intro hm hrl))
  have HHr := Bx.mk hr
  have hE2 : (w.alloc (.cells #[] 3)).heap.size = E + 1 := by simp [hE]
  have HS0 := Bx.mk hE2
  have hyu := hyf
  clear hy hrw hv ha hq hr hE2
  obtain ⟨nl, hnl⟩ : ∃ n, l.a.length = n := ⟨_, rfl⟩
  obtain ⟨nm, hnm⟩ : ∃ n, m.length = n := ⟨_, rfl⟩
  have HN := Bx.mk (And.intro hnl hnm)
  rw [hnl] at k0 hyf
  rw [hnm] at HW ⊢
  rw [hnm] at HR
  have HYf := Bx.mk hyf
  clear hnl hnm hyu hyf hg hm hrl
  go_enter Tryd.func61, Tryd.ntmps61
  go_wp2_with fail
  refine HR.out.mono ?_
  rintro e w1 ⟨rfl, hw⟩
  have hw2 := hw.symm
  subst hw2
  clear HR hw
  go_wp2_with (first | (refine wpList_apI rfl _ _ rfl E _ ([] : List Int) (by rfl) HO0.out _ l.a (by rfl) (by rw [← HYf.out]; exact (HW.out _ HB0.out).2.1.a.ints) (by have := HL.out; simp; omega) (by rw [HS0.out]; omega) ?_; intro v1 w2 ho hg; have HB1 : Bx (Below E w w2 ∧ E ≤ w2.heap.size) := ⟨HB0.out.trans (ownI_below HO0.out hg (by rw [HS0.out]; omega)), by have := hg.size; rw [HS0.out] at this; omega⟩; rw [List.nil_append] at ho; obtain ⟨z1, f1, hv1⟩ := ho.form; rw [HN.out.1] at hv1; subst hv1; have HO1 := Bx.mk ho; clear ho hg k0 HO0 HB0) | (refine wpList_apI rfl _ _ rfl E _ l.a (by rfl) HO1.out _ m (by rfl) (HW.out _ HB1.out.1).2.2.ints (by have := HL.out; omega) HB1.out.2 ?_; intro v2 w3 ho hg; have HB2 : Bx (Below E w w3 ∧ E ≤ w3.heap.size) := ⟨HB1.out.1.trans (ownI_below HO1.out hg HB1.out.2), Nat.le_trans HB1.out.2 hg.size⟩; rw [HHr.out] at ho; obtain ⟨z2, f2, hv2⟩ := ho.form; obtain ⟨nr, hnr⟩ : ∃ n, r.length = n := ⟨_, rfl⟩; rw [hnr] at hv2; subst hv2; have HO2 := Bx.mk ho; have HNr := Bx.mk hnr; clear ho hg HO1 HB1 hnr))
  refine (rtwice8 r _ w3 (HO2.out.isL) (by have := HL.out; omega)).mono ?_
  rintro e w4 ⟨rfl, hb⟩
  have HL4 := Bx.mk (HO2.out.isL.later hb)
  have HB3 : Bx (Below E w w4) := ⟨HB2.out.1.trans (hb.mono HB2.out.2)⟩
  have HG4 := Bx.mk (kb_below (some q) (show Below w.heap.size w w4 by rw [hE]; exact HB3.out))
  clear hb HO2 HB2
  by_cases hd : dupB r = true
  · have hR := HRes.out
    rw [if_pos hd] at hR
    clear HRes
    subst hR
    simp only [hd]
    go_wp2
    go_ret
    exact ⟨rfl, ⟨y, (HW.out _ HB3.out).1, (HW.out _ HB3.out).2.1⟩, HG4.out⟩
  · have hR := HRes.out
    rw [if_neg hd, HNr.out] at hR
    simp only [eq_false_of_ne_true hd]
    have hnr0 := HL.out.2.2
    rw [HNr.out] at hnr0
    clear HRes
    by_cases h6 : 256 < nr
    · have h6' : (256 : Int) < (nr : Int) := by omega
      rw [if_pos h6] at hR
      subst hR
      go_wp2
      go_ret
      exact ⟨rfl, ⟨y, (HW.out _ HB3.out).1, (HW.out _ HB3.out).2.1⟩, HG4.out⟩
    · have h6' : ¬ (256 : Int) < (nr : Int) := by omega
      rw [if_neg h6] at hR
      subst hR
      go_wp2_with (refine wpList_cellS rfl _ _ rfl q 0 z2 nr f2 #[y.a, y.b, y.c, y.d] #[.slice z2 nr f2, y.b, y.c, y.d] 79 (by rfl) (by rfl) (HW.out _ HB3.out).1 (by simp) rfl ?_; intro w5 hg hr; have HE5 : Bx (RAt w5 q { l with a := r } ∧ w.grownBy w5 (some q)) := ⟨⟨⟨.slice z2 nr f2, y.b, y.c, y.d⟩, hr, ⟨HL4.out.grown hg (HW.out _ HB3.out).1 rs_int, (HW.out _ HB3.out).2.1.b.grown hg (HW.out _ HB3.out).1 rs_int, (HW.out _ HB3.out).2.1.c.grown hg (HW.out _ HB3.out).1 rs_int, (HW.out _ HB3.out).2.1.d.grown hg (HW.out _ HB3.out).1 rs_int⟩⟩, kb_trans HG4.out hg⟩; clear hg hr)
      go_ret
      exact ⟨rfl, HE5.out⟩
set_option maxRecDepth 100000 in
set_option maxHeartbeats 1000000 in
theorem rrev_1 (v : Value) (m : List Int) (q : Nat) (l : L4) (w : World) (hs : RAt w q l) (hg : l.b.length ≤ 256) (hv : IsL w v m) (hm : m.length ≤ 1000) (ha : allS m = true) : Calls Tryd.prog 61 #[.pointer (some ⟨q, 0, none⟩), .int .i64 1, v] w fun e w' =>
    e = .returned (.int .i64 (if dupB (l.b ++ m) = true then (8, l) else if 256 < (l.b ++ m).length then (6, l) else (0, { l with b := l.b ++ m }) : Int × L4).1) ∧ RAt w' q (if dupB (l.b ++ m) = true then (8, l) else if 256 < (l.b ++ m).length then (6, l) else (0, { l with b := l.b ++ m }) : Int × L4).2 ∧ w.grownBy w' (some q) := by
  obtain ⟨r, hr⟩ : ∃ r, l.b ++ m = r := ⟨_, rfl⟩
  rw [hr]
  obtain ⟨R, hR⟩ : ∃ R, (if dupB r = true then (8, l) else if 256 < r.length then (6, l) else (0, { l with b := r }) : Int × L4) = R := ⟨_, rfl⟩
  rw [hR]
  have HRes := Bx.mk hR
  clear hR
  have hrl : r.length ≤ 1256 := by rw [← hr, List.length_append]; omega
  obtain ⟨E, hE⟩ : ∃ E, w.heap.size = E := ⟨_, rfl⟩
  obtain ⟨y, hy, hrw⟩ := hs
  have hq := (Array.getElem?_eq_some_iff.1 hy).1
  rw [hE] at hq
  have HR := Bx.mk (rright8 m v w hv (by omega))
  rw [ha] at HR
  obtain ⟨a, c, hvf⟩ := hv.form
  subst hvf
  obtain ⟨au, cu, hyf⟩ := hrw.b.form
  have HB0 := Bx.mk (below_a (W := w) (.cells #[] 3))
  have k0 : (w.alloc (.cells #[] 3)).cell? ⟨q, 1, none⟩ = some (.slice au l.b.length cu) := by
    rw [cell_of_row _ _ _ _ _ _ ((hold _ _ _ (by omega)).trans hy), ← hyf]
    rfl
  have hO0 := ownI_empty w E (by omega)
  rw [hE] at hO0
  have HO0 := Bx.mk hO0
  clear hO0
  have HA := Bx.mk (And.intro hy (And.intro hrw hv))
  have HW : Bx (∀ W, Below E w W → W.heap[q]? = some (.cells #[y.a, y.b, y.c, y.d] 79 (0, 0)) ∧ Rows4 W y l ∧ IsL W (.slice a m.length c) m) := ⟨fun W h => ⟨by rw [h.block q hq]; exact hy, hrw.later (by rw [hE]; exact h), hv.later (by rw [hE]; exact h)⟩⟩
  rw [hE] at HB0
  have HL := Bx.mk (And.intro hg (And.intro hm hrl))
  have HHr := Bx.mk hr
  have hE2 : (w.alloc (.cells #[] 3)).heap.size = E + 1 := by simp [hE]
  have HS0 := Bx.mk hE2
  have hyu := hyf
  clear hy hrw hv ha hq hr hE2
  obtain ⟨nl, hnl⟩ : ∃ n, l.b.length = n := ⟨_, rfl⟩
  obtain ⟨nm, hnm⟩ : ∃ n, m.length = n := ⟨_, rfl⟩
  have HN := Bx.mk (And.intro hnl hnm)
  rw [hnl] at k0 hyf
  rw [hnm] at HW ⊢
  rw [hnm] at HR
  have HYf := Bx.mk hyf
  clear hnl hnm hyu hyf hg hm hrl
  go_enter Tryd.func61, Tryd.ntmps61
  go_wp2_with fail
  refine HR.out.mono ?_
  rintro e w1 ⟨rfl, hw⟩
  have hw2 := hw.symm
  subst hw2
  clear HR hw
  go_wp2_with (first | (refine wpList_apI rfl _ _ rfl E _ ([] : List Int) (by rfl) HO0.out _ l.b (by rfl) (by rw [← HYf.out]; exact (HW.out _ HB0.out).2.1.b.ints) (by have := HL.out; simp; omega) (by rw [HS0.out]; omega) ?_; intro v1 w2 ho hg; have HB1 : Bx (Below E w w2 ∧ E ≤ w2.heap.size) := ⟨HB0.out.trans (ownI_below HO0.out hg (by rw [HS0.out]; omega)), by have := hg.size; rw [HS0.out] at this; omega⟩; rw [List.nil_append] at ho; obtain ⟨z1, f1, hv1⟩ := ho.form; rw [HN.out.1] at hv1; subst hv1; have HO1 := Bx.mk ho; clear ho hg k0 HO0 HB0) | (refine wpList_apI rfl _ _ rfl E _ l.b (by rfl) HO1.out _ m (by rfl) (HW.out _ HB1.out.1).2.2.ints (by have := HL.out; omega) HB1.out.2 ?_; intro v2 w3 ho hg; have HB2 : Bx (Below E w w3 ∧ E ≤ w3.heap.size) := ⟨HB1.out.1.trans (ownI_below HO1.out hg HB1.out.2), Nat.le_trans HB1.out.2 hg.size⟩; rw [HHr.out] at ho; obtain ⟨z2, f2, hv2⟩ := ho.form; obtain ⟨nr, hnr⟩ : ∃ n, r.length = n := ⟨_, rfl⟩; rw [hnr] at hv2; subst hv2; have HO2 := Bx.mk ho; have HNr := Bx.mk hnr; clear ho hg HO1 HB1 hnr))
  refine (rtwice8 r _ w3 (HO2.out.isL) (by have := HL.out; omega)).mono ?_
  rintro e w4 ⟨rfl, hb⟩
  have HL4 := Bx.mk (HO2.out.isL.later hb)
  have HB3 : Bx (Below E w w4) := ⟨HB2.out.1.trans (hb.mono HB2.out.2)⟩
  have HG4 := Bx.mk (kb_below (some q) (show Below w.heap.size w w4 by rw [hE]; exact HB3.out))
  clear hb HO2 HB2
  by_cases hd : dupB r = true
  · have hR := HRes.out
    rw [if_pos hd] at hR
    clear HRes
    subst hR
    simp only [hd]
    go_wp2
    go_ret
    exact ⟨rfl, ⟨y, (HW.out _ HB3.out).1, (HW.out _ HB3.out).2.1⟩, HG4.out⟩
  · have hR := HRes.out
    rw [if_neg hd, HNr.out] at hR
    simp only [eq_false_of_ne_true hd]
    have hnr0 := HL.out.2.2
    rw [HNr.out] at hnr0
    clear HRes
    by_cases h6 : 256 < nr
    · have h6' : (256 : Int) < (nr : Int) := by omega
      rw [if_pos h6] at hR
      subst hR
      go_wp2
      go_ret
      exact ⟨rfl, ⟨y, (HW.out _ HB3.out).1, (HW.out _ HB3.out).2.1⟩, HG4.out⟩
    · have h6' : ¬ (256 : Int) < (nr : Int) := by omega
      rw [if_neg h6] at hR
      subst hR
      go_wp2_with (refine wpList_cellS rfl _ _ rfl q 1 z2 nr f2 #[y.a, y.b, y.c, y.d] #[y.a, .slice z2 nr f2, y.c, y.d] 79 (by rfl) (by rfl) (HW.out _ HB3.out).1 (by simp) rfl ?_; intro w5 hg hr; have HE5 : Bx (RAt w5 q { l with b := r } ∧ w.grownBy w5 (some q)) := ⟨⟨⟨y.a, .slice z2 nr f2, y.c, y.d⟩, hr, ⟨(HW.out _ HB3.out).2.1.a.grown hg (HW.out _ HB3.out).1 rs_int, HL4.out.grown hg (HW.out _ HB3.out).1 rs_int, (HW.out _ HB3.out).2.1.c.grown hg (HW.out _ HB3.out).1 rs_int, (HW.out _ HB3.out).2.1.d.grown hg (HW.out _ HB3.out).1 rs_int⟩⟩, kb_trans HG4.out hg⟩; clear hg hr)
      go_ret
      exact ⟨rfl, HE5.out⟩
set_option maxRecDepth 100000 in
set_option maxHeartbeats 1000000 in
theorem rrev_2 (v : Value) (m : List Int) (q : Nat) (l : L4) (w : World) (hs : RAt w q l) (hg : l.c.length ≤ 256) (hv : IsL w v m) (hm : m.length ≤ 1000) (ha : allS m = true) : Calls Tryd.prog 61 #[.pointer (some ⟨q, 0, none⟩), .int .i64 2, v] w fun e w' =>
    e = .returned (.int .i64 (if dupB (l.c ++ m) = true then (8, l) else if 256 < (l.c ++ m).length then (6, l) else (0, { l with c := l.c ++ m }) : Int × L4).1) ∧ RAt w' q (if dupB (l.c ++ m) = true then (8, l) else if 256 < (l.c ++ m).length then (6, l) else (0, { l with c := l.c ++ m }) : Int × L4).2 ∧ w.grownBy w' (some q) := by
  obtain ⟨r, hr⟩ : ∃ r, l.c ++ m = r := ⟨_, rfl⟩
  rw [hr]
  obtain ⟨R, hR⟩ : ∃ R, (if dupB r = true then (8, l) else if 256 < r.length then (6, l) else (0, { l with c := r }) : Int × L4) = R := ⟨_, rfl⟩
  rw [hR]
  have HRes := Bx.mk hR
  clear hR
  have hrl : r.length ≤ 1256 := by rw [← hr, List.length_append]; omega
  obtain ⟨E, hE⟩ : ∃ E, w.heap.size = E := ⟨_, rfl⟩
  obtain ⟨y, hy, hrw⟩ := hs
  have hq := (Array.getElem?_eq_some_iff.1 hy).1
  rw [hE] at hq
  have HR := Bx.mk (rright8 m v w hv (by omega))
  rw [ha] at HR
  obtain ⟨a, c, hvf⟩ := hv.form
  subst hvf
  obtain ⟨au, cu, hyf⟩ := hrw.c.form
  have HB0 := Bx.mk (below_a (W := w) (.cells #[] 3))
  have k0 : (w.alloc (.cells #[] 3)).cell? ⟨q, 2, none⟩ = some (.slice au l.c.length cu) := by
    rw [cell_of_row _ _ _ _ _ _ ((hold _ _ _ (by omega)).trans hy), ← hyf]
    rfl
  have hO0 := ownI_empty w E (by omega)
  rw [hE] at hO0
  have HO0 := Bx.mk hO0
  clear hO0
  have HA := Bx.mk (And.intro hy (And.intro hrw hv))
  have HW : Bx (∀ W, Below E w W → W.heap[q]? = some (.cells #[y.a, y.b, y.c, y.d] 79 (0, 0)) ∧ Rows4 W y l ∧ IsL W (.slice a m.length c) m) := ⟨fun W h => ⟨by rw [h.block q hq]; exact hy, hrw.later (by rw [hE]; exact h), hv.later (by rw [hE]; exact h)⟩⟩
  rw [hE] at HB0
  have HL := Bx.mk (And.intro hg (And.intro hm hrl))
  have HHr := Bx.mk hr
  have hE2 : (w.alloc (.cells #[] 3)).heap.size = E + 1 := by simp [hE]
  have HS0 := Bx.mk hE2
  have hyu := hyf
  clear hy hrw hv ha hq hr hE2
  obtain ⟨nl, hnl⟩ : ∃ n, l.c.length = n := ⟨_, rfl⟩
  obtain ⟨nm, hnm⟩ : ∃ n, m.length = n := ⟨_, rfl⟩
  have HN := Bx.mk (And.intro hnl hnm)
  rw [hnl] at k0 hyf
  rw [hnm] at HW ⊢
  rw [hnm] at HR
  have HYf := Bx.mk hyf
  clear hnl hnm hyu hyf hg hm hrl
  go_enter Tryd.func61, Tryd.ntmps61
  go_wp2_with fail
  refine HR.out.mono ?_
  rintro e w1 ⟨rfl, hw⟩
  have hw2 := hw.symm
  subst hw2
  clear HR hw
  go_wp2_with (first | (refine wpList_apI rfl _ _ rfl E _ ([] : List Int) (by rfl) HO0.out _ l.c (by rfl) (by rw [← HYf.out]; exact (HW.out _ HB0.out).2.1.c.ints) (by have := HL.out; simp; omega) (by rw [HS0.out]; omega) ?_; intro v1 w2 ho hg; have HB1 : Bx (Below E w w2 ∧ E ≤ w2.heap.size) := ⟨HB0.out.trans (ownI_below HO0.out hg (by rw [HS0.out]; omega)), by have := hg.size; rw [HS0.out] at this; omega⟩; rw [List.nil_append] at ho; obtain ⟨z1, f1, hv1⟩ := ho.form; rw [HN.out.1] at hv1; subst hv1; have HO1 := Bx.mk ho; clear ho hg k0 HO0 HB0) | (refine wpList_apI rfl _ _ rfl E _ l.c (by rfl) HO1.out _ m (by rfl) (HW.out _ HB1.out.1).2.2.ints (by have := HL.out; omega) HB1.out.2 ?_; intro v2 w3 ho hg; have HB2 : Bx (Below E w w3 ∧ E ≤ w3.heap.size) := ⟨HB1.out.1.trans (ownI_below HO1.out hg HB1.out.2), Nat.le_trans HB1.out.2 hg.size⟩; rw [HHr.out] at ho; obtain ⟨z2, f2, hv2⟩ := ho.form; obtain ⟨nr, hnr⟩ : ∃ n, r.length = n := ⟨_, rfl⟩; rw [hnr] at hv2; subst hv2; have HO2 := Bx.mk ho; have HNr := Bx.mk hnr; clear ho hg HO1 HB1 hnr))
  refine (rtwice8 r _ w3 (HO2.out.isL) (by have := HL.out; omega)).mono ?_
  rintro e w4 ⟨rfl, hb⟩
  have HL4 := Bx.mk (HO2.out.isL.later hb)
  have HB3 : Bx (Below E w w4) := ⟨HB2.out.1.trans (hb.mono HB2.out.2)⟩
  have HG4 := Bx.mk (kb_below (some q) (show Below w.heap.size w w4 by rw [hE]; exact HB3.out))
  clear hb HO2 HB2
  by_cases hd : dupB r = true
  · have hR := HRes.out
    rw [if_pos hd] at hR
    clear HRes
    subst hR
    simp only [hd]
    go_wp2
    go_ret
    exact ⟨rfl, ⟨y, (HW.out _ HB3.out).1, (HW.out _ HB3.out).2.1⟩, HG4.out⟩
  · have hR := HRes.out
    rw [if_neg hd, HNr.out] at hR
    simp only [eq_false_of_ne_true hd]
    have hnr0 := HL.out.2.2
    rw [HNr.out] at hnr0
    clear HRes
    by_cases h6 : 256 < nr
    · have h6' : (256 : Int) < (nr : Int) := by omega
      rw [if_pos h6] at hR
      subst hR
      go_wp2
      go_ret
      exact ⟨rfl, ⟨y, (HW.out _ HB3.out).1, (HW.out _ HB3.out).2.1⟩, HG4.out⟩
    · have h6' : ¬ (256 : Int) < (nr : Int) := by omega
      rw [if_neg h6] at hR
      subst hR
      go_wp2_with (refine wpList_cellS rfl _ _ rfl q 2 z2 nr f2 #[y.a, y.b, y.c, y.d] #[y.a, y.b, .slice z2 nr f2, y.d] 79 (by rfl) (by rfl) (HW.out _ HB3.out).1 (by simp) rfl ?_; intro w5 hg hr; have HE5 : Bx (RAt w5 q { l with c := r } ∧ w.grownBy w5 (some q)) := ⟨⟨⟨y.a, y.b, .slice z2 nr f2, y.d⟩, hr, ⟨(HW.out _ HB3.out).2.1.a.grown hg (HW.out _ HB3.out).1 rs_int, (HW.out _ HB3.out).2.1.b.grown hg (HW.out _ HB3.out).1 rs_int, HL4.out.grown hg (HW.out _ HB3.out).1 rs_int, (HW.out _ HB3.out).2.1.d.grown hg (HW.out _ HB3.out).1 rs_int⟩⟩, kb_trans HG4.out hg⟩; clear hg hr)
      go_ret
      exact ⟨rfl, HE5.out⟩
set_option maxRecDepth 100000 in
set_option maxHeartbeats 1000000 in
theorem rrev_3 (v : Value) (m : List Int) (q : Nat) (l : L4) (w : World) (hs : RAt w q l) (hg : l.d.length ≤ 256) (hv : IsL w v m) (hm : m.length ≤ 1000) (ha : allS m = true) : Calls Tryd.prog 61 #[.pointer (some ⟨q, 0, none⟩), .int .i64 3, v] w fun e w' =>
    e = .returned (.int .i64 (if dupB (l.d ++ m) = true then (8, l) else if 256 < (l.d ++ m).length then (6, l) else (0, { l with d := l.d ++ m }) : Int × L4).1) ∧ RAt w' q (if dupB (l.d ++ m) = true then (8, l) else if 256 < (l.d ++ m).length then (6, l) else (0, { l with d := l.d ++ m }) : Int × L4).2 ∧ w.grownBy w' (some q) := by
  obtain ⟨r, hr⟩ : ∃ r, l.d ++ m = r := ⟨_, rfl⟩
  rw [hr]
  obtain ⟨R, hR⟩ : ∃ R, (if dupB r = true then (8, l) else if 256 < r.length then (6, l) else (0, { l with d := r }) : Int × L4) = R := ⟨_, rfl⟩
  rw [hR]
  have HRes := Bx.mk hR
  clear hR
  have hrl : r.length ≤ 1256 := by rw [← hr, List.length_append]; omega
  obtain ⟨E, hE⟩ : ∃ E, w.heap.size = E := ⟨_, rfl⟩
  obtain ⟨y, hy, hrw⟩ := hs
  have hq := (Array.getElem?_eq_some_iff.1 hy).1
  rw [hE] at hq
  have HR := Bx.mk (rright8 m v w hv (by omega))
  rw [ha] at HR
  obtain ⟨a, c, hvf⟩ := hv.form
  subst hvf
  obtain ⟨au, cu, hyf⟩ := hrw.d.form
  have HB0 := Bx.mk (below_a (W := w) (.cells #[] 3))
  have k0 : (w.alloc (.cells #[] 3)).cell? ⟨q, 3, none⟩ = some (.slice au l.d.length cu) := by
    rw [cell_of_row _ _ _ _ _ _ ((hold _ _ _ (by omega)).trans hy), ← hyf]
    rfl
  have hO0 := ownI_empty w E (by omega)
  rw [hE] at hO0
  have HO0 := Bx.mk hO0
  clear hO0
  have HA := Bx.mk (And.intro hy (And.intro hrw hv))
  have HW : Bx (∀ W, Below E w W → W.heap[q]? = some (.cells #[y.a, y.b, y.c, y.d] 79 (0, 0)) ∧ Rows4 W y l ∧ IsL W (.slice a m.length c) m) := ⟨fun W h => ⟨by rw [h.block q hq]; exact hy, hrw.later (by rw [hE]; exact h), hv.later (by rw [hE]; exact h)⟩⟩
  rw [hE] at HB0
  have HL := Bx.mk (And.intro hg (And.intro hm hrl))
  have HHr := Bx.mk hr
  have hE2 : (w.alloc (.cells #[] 3)).heap.size = E + 1 := by simp [hE]
  have HS0 := Bx.mk hE2
  have hyu := hyf
  clear hy hrw hv ha hq hr hE2
  obtain ⟨nl, hnl⟩ : ∃ n, l.d.length = n := ⟨_, rfl⟩
  obtain ⟨nm, hnm⟩ : ∃ n, m.length = n := ⟨_, rfl⟩
  have HN := Bx.mk (And.intro hnl hnm)
  rw [hnl] at k0 hyf
  rw [hnm] at HW ⊢
  rw [hnm] at HR
  have HYf := Bx.mk hyf
  clear hnl hnm hyu hyf hg hm hrl
  go_enter Tryd.func61, Tryd.ntmps61
  go_wp2_with fail
  refine HR.out.mono ?_
  rintro e w1 ⟨rfl, hw⟩
  have hw2 := hw.symm
  subst hw2
  clear HR hw
  go_wp2_with (first | (refine wpList_apI rfl _ _ rfl E _ ([] : List Int) (by rfl) HO0.out _ l.d (by rfl) (by rw [← HYf.out]; exact (HW.out _ HB0.out).2.1.d.ints) (by have := HL.out; simp; omega) (by rw [HS0.out]; omega) ?_; intro v1 w2 ho hg; have HB1 : Bx (Below E w w2 ∧ E ≤ w2.heap.size) := ⟨HB0.out.trans (ownI_below HO0.out hg (by rw [HS0.out]; omega)), by have := hg.size; rw [HS0.out] at this; omega⟩; rw [List.nil_append] at ho; obtain ⟨z1, f1, hv1⟩ := ho.form; rw [HN.out.1] at hv1; subst hv1; have HO1 := Bx.mk ho; clear ho hg k0 HO0 HB0) | (refine wpList_apI rfl _ _ rfl E _ l.d (by rfl) HO1.out _ m (by rfl) (HW.out _ HB1.out.1).2.2.ints (by have := HL.out; omega) HB1.out.2 ?_; intro v2 w3 ho hg; have HB2 : Bx (Below E w w3 ∧ E ≤ w3.heap.size) := ⟨HB1.out.1.trans (ownI_below HO1.out hg HB1.out.2), Nat.le_trans HB1.out.2 hg.size⟩; rw [HHr.out] at ho; obtain ⟨z2, f2, hv2⟩ := ho.form; obtain ⟨nr, hnr⟩ : ∃ n, r.length = n := ⟨_, rfl⟩; rw [hnr] at hv2; subst hv2; have HO2 := Bx.mk ho; have HNr := Bx.mk hnr; clear ho hg HO1 HB1 hnr))
  refine (rtwice8 r _ w3 (HO2.out.isL) (by have := HL.out; omega)).mono ?_
  rintro e w4 ⟨rfl, hb⟩
  have HL4 := Bx.mk (HO2.out.isL.later hb)
  have HB3 : Bx (Below E w w4) := ⟨HB2.out.1.trans (hb.mono HB2.out.2)⟩
  have HG4 := Bx.mk (kb_below (some q) (show Below w.heap.size w w4 by rw [hE]; exact HB3.out))
  clear hb HO2 HB2
  by_cases hd : dupB r = true
  · have hR := HRes.out
    rw [if_pos hd] at hR
    clear HRes
    subst hR
    simp only [hd]
    go_wp2
    go_ret
    exact ⟨rfl, ⟨y, (HW.out _ HB3.out).1, (HW.out _ HB3.out).2.1⟩, HG4.out⟩
  · have hR := HRes.out
    rw [if_neg hd, HNr.out] at hR
    simp only [eq_false_of_ne_true hd]
    have hnr0 := HL.out.2.2
    rw [HNr.out] at hnr0
    clear HRes
    by_cases h6 : 256 < nr
    · have h6' : (256 : Int) < (nr : Int) := by omega
      rw [if_pos h6] at hR
      subst hR
      go_wp2
      go_ret
      exact ⟨rfl, ⟨y, (HW.out _ HB3.out).1, (HW.out _ HB3.out).2.1⟩, HG4.out⟩
    · have h6' : ¬ (256 : Int) < (nr : Int) := by omega
      rw [if_neg h6] at hR
      subst hR
      go_wp2_with (refine wpList_cellS rfl _ _ rfl q 3 z2 nr f2 #[y.a, y.b, y.c, y.d] #[y.a, y.b, y.c, .slice z2 nr f2] 79 (by rfl) (by rfl) (HW.out _ HB3.out).1 (by simp) rfl ?_; intro w5 hg hr; have HE5 : Bx (RAt w5 q { l with d := r } ∧ w.grownBy w5 (some q)) := ⟨⟨⟨y.a, y.b, y.c, .slice z2 nr f2⟩, hr, ⟨(HW.out _ HB3.out).2.1.a.grown hg (HW.out _ HB3.out).1 rs_int, (HW.out _ HB3.out).2.1.b.grown hg (HW.out _ HB3.out).1 rs_int, (HW.out _ HB3.out).2.1.c.grown hg (HW.out _ HB3.out).1 rs_int, HL4.out.grown hg (HW.out _ HB3.out).1 rs_int⟩⟩, kb_trans HG4.out hg⟩; clear hg hr)
      go_ret
      exact ⟨rfl, HE5.out⟩
theorem rrev8 (n : Int) (v : Value) (m : List Int) (q : Nat) (l : L4) (w : World) (hs : RAt w q l) (hg : Good l) (hv : IsL w v m) (hm : m.length ≤ 1000) : Calls Tryd.prog 61 #[.pointer (some ⟨q, 0, none⟩), .int .i64 n, v] w fun e w' =>
    e = .returned (.int .i64 (revL l n m).1) ∧ RAt w' q (revL l n m).2 ∧ w.grownBy w' (some q) := by
  by_cases hn : 0 ≤ n ∧ n < 4
  · cases ha : allS m
    · have e1 : revL l n m = (10, l) := by unfold revL; rw [if_neg (by rw [ha]; simp)]
      rw [e1]
      refine (rrev_bad n _ v m w hn hv hm ha).mono ?_
      rintro e w' ⟨rfl, rfl⟩
      exact ⟨rfl, hs, kb_refl _ _⟩
    · have e1 : revL l n m = if dupB (l.get n ++ m) = true then (8, l) else if 256 < (l.get n ++ m).length then (6, l) else (0, l.put n (l.get n ++ m)) := by
        unfold revL
        rw [if_pos ⟨hn.1, hn.2, ha⟩]
      rw [e1]
      have hn4 : n = 0 ∨ n = 1 ∨ n = 2 ∨ n = 3 := by omega
      rcases hn4 with rfl | rfl | rfl | rfl
      · exact rrev_0 v m q l w hs hg.a hv hm ha
      · exact rrev_1 v m q l w hs hg.b hv hm ha
      · exact rrev_2 v m q l w hs hg.c hv hm ha
      · exact rrev_3 v m q l w hs hg.d hv hm ha
  · have e1 : revL l n m = (10, l) := by
      unfold revL
      rw [if_neg (fun h => hn ⟨h.1, h.2.1⟩)]
    rw [e1]
    refine (rrev_out n _ v w hn).mono ?_
    rintro e w' ⟨rfl, rfl⟩
    exact ⟨rfl, hs, kb_refl _ _⟩
end Go.Proofs.YtnfgamekjbkbkaaDoor
