/-
  Revocations: a set's log, revoking.
  Revocations: what a seed revoked.
  Revocations: is a serial revoked?
-/
import Derived.Test.YtnfgamekjbkbkaaDoorEa
namespace Go.Proofs.YtnfgamekjbkbkaaDoor
open Go Go.RowKit
def L4.get (l : L4) (n : Int) : List Int := if n = 0 then l.a else if n = 1 then l.b else if n = 2 then l.c else l.d
def L4.put (l : L4) (n : Int) (x : List Int) : L4 := if n = 0 then { l with a := x } else if n = 1 then { l with b := x } else if n = 2 then { l with c := x } else { l with d := x }
/-- Does one stand twice? -/
def dupB (l : List Int) : Bool := (List.range l.length).any fun k => decide (l.getD k 0 ∈ l.take k)
theorem dup_iff (l : List Int) : dupB l = true ↔ Dup l := by
  unfold dupB Dup
  rw [List.any_eq_true]
  constructor
  · rintro ⟨k, hk, h⟩
    exact ⟨k, List.mem_range.1 hk, of_decide_eq_true h⟩
  · rintro ⟨k, hk, h⟩
    exact ⟨k, List.mem_range.2 hk, decide_eq_true h⟩
theorem twice_any (l : List Int) (v : Value) (w : World) (hv : IsL w v l) (hl : l.length ≤ 1000000) (h64 : ∀ x ∈ l, in64 x) :
    Calls Tryd.prog 72 #[v] w fun e w' => e = .returned (.bool (dupB l)) ∧ Below w.heap.size w w' :=
  (hasTwice_any l v w hv hl h64).mono (by
    rintro e w' ⟨z, rfl, h, hb⟩
    refine ⟨?_, hb⟩
    rw [← dup_iff] at h
    congr 2
    rw [Bool.eq_iff_iff]
    exact h)
/-- What revoking answers, and the logs then. -/
def revL (l : L4) (n : Int) (m : List Int) : Int × L4 :=
  if 0 ≤ n ∧ n < 4 ∧ allS m = true then
    if dupB (l.get n ++ m) = true then (8, l) else if 256 < (l.get n ++ m).length then (6, l) else (0, l.put n (l.get n ++ m))
  else (10, l)
theorem allS_in {l : List Int} (h : allS l = true) : ∀ x ∈ l, okS x = true := fun x hx => (List.all_eq_true.1 h) x hx
theorem okS_in {x : Int} (h : okS x = true) : in64 x := by
  unfold okS at h
  unfold in64
  simp at h
  omega
theorem isSeed_in (n : Int) (h : 0 ≤ n ∧ n < 4) (w : World) : Calls Tryd.prog 69 #[.int .i64 n] w fun e w' => e = .returned (.bool true) ∧ w' = w :=
  (isSeed_any n w).mono (by
    rintro e w' ⟨rfl, rfl⟩
    rw [decide_eq_true h]
    exact ⟨rfl, rfl⟩)
theorem isSeed_out (n : Int) (h : ¬ (0 ≤ n ∧ n < 4)) (w : World) : Calls Tryd.prog 69 #[.int .i64 n] w fun e w' => e = .returned (.bool false) ∧ w' = w :=
  (isSeed_any n w).mono (by
    rintro e w' ⟨rfl, rfl⟩
    rw [decide_eq_false h]
    exact ⟨rfl, rfl⟩)
theorem revoke_out (n : Int) (v : Value) (p : Nat) (w : World) (hn : ¬ (0 ≤ n ∧ n < 4)) : Calls Tryd.prog 41 #[.pointer (some ⟨p, 0, none⟩), .int .i64 n, v] w fun e w' => e = .returned (.int .i64 10) ∧ w' = w := by
  have HS := Bx.mk (isSeed_out n hn w)
  clear hn
  go_enter Tryd.func41, Tryd.ntmps41
  go_wp2_with fail
  refine HS.out.mono ?_
  rintro e w1 ⟨rfl, rfl⟩
  go_wp2
  go_ret
  exact ⟨rfl, rfl⟩
theorem revoke_bad (n : Int) (v : Value) (m : List Int) (p : Nat) (w : World) (hn : 0 ≤ n ∧ n < 4) (hv : IsL w v m) (hm : m.length ≤ 1000) (ha : allS m = false) : Calls Tryd.prog 41 #[.pointer (some ⟨p, 0, none⟩), .int .i64 n, v] w fun e w' => e = .returned (.int .i64 10) ∧ Below w.heap.size w w' := by
  have HS := Bx.mk (isSeed_in n hn w)
  have HA := Bx.mk (allSerials_any m v w hv (by omega))
  rw [ha] at HA
  obtain ⟨va, vc, rfl⟩ := hv.form
  clear hn hv hm ha
  go_enter Tryd.func41, Tryd.ntmps41
  go_wp2_with fail
  refine HS.out.mono ?_
  rintro e w1 ⟨rfl, hw1⟩
  rw [hw1]
  clear hw1
  go_wp2_with fail
  refine HA.out.mono ?_
  rintro e w1 ⟨rfl, hb⟩
  go_wp2
  go_ret
  exact ⟨rfl, hb⟩
set_option maxRecDepth 100000 in
set_option maxHeartbeats 1000000 in
theorem revoke_0 (v : Value) (m : List Int) (p : Nat) (l : L4) (w : World) (hs : SetAt w p l) (hg : Good l) (hv : IsL w v m) (hm : m.length ≤ 1000) (ha : allS m = true) : Calls Tryd.prog 41 #[.pointer (some ⟨p, 0, none⟩), .int .i64 0, v] w fun e w' =>
    e = .returned (.int .i64 (if dupB (l.a ++ m) = true then (8, l) else if 256 < (l.a ++ m).length then (6, l) else (0, { l with a := l.a ++ m }) : Int × L4).1) ∧ SetAt w' p (if dupB (l.a ++ m) = true then (8, l) else if 256 < (l.a ++ m).length then (6, l) else (0, { l with a := l.a ++ m }) : Int × L4).2 ∧ w.grownBy w' (some p) := by
  obtain ⟨q, hq⟩ : ∃ q, (if dupB (l.a ++ m) = true then (8, l) else if 256 < (l.a ++ m).length then (6, l) else (0, { l with a := l.a ++ m }) : Int × L4) = q := ⟨_, rfl⟩
  rw [hq]
  have HQ := Bx.mk hq
  clear hq
  have HS := Bx.mk (isSeed_in 0 (by omega) w)
  have HA := Bx.mk (allSerials_any m v w hv (by omega))
  rw [ha] at HA
  have h64 : ∀ x ∈ l.a ++ m, in64 x := fun x hx => by
    rcases List.mem_append.1 hx with hx | hx
    · exact okS_in (hg.s x (.inl hx))
    · exact okS_in (allS_in ha x hx)
  have hlen : (l.a ++ m).length ≤ 1256 := by rw [List.length_append]; have := hg.a; omega
  have HSum : Bx (l.a.length + m.length ≤ 1000000) := ⟨by have := hg.a; omega⟩
  obtain ⟨nl, hnl⟩ : ∃ nl, l.a ++ m = nl := ⟨_, rfl⟩
  rw [hnl] at h64 hlen HQ
  have HNL := Bx.mk hnl
  have HV := Bx.mk hv
  have HSet := Bx.mk hs
  have H64 := Bx.mk h64
  have HLen := Bx.mk hlen
  obtain ⟨va, vc, rfl⟩ := hv.form
  clear hg hv hm ha hs h64 hlen hnl
  go_enter Tryd.func41, Tryd.ntmps41
  go_wp2_with fail
  refine HS.out.mono ?_
  rintro e w1 ⟨rfl, hw1⟩
  rw [hw1]
  clear hw1
  go_wp2_with fail
  refine HA.out.mono ?_
  rintro e w2 ⟨rfl, hb⟩
  obtain ⟨x, hx, hr⟩ := HSet.out.later hb
  have HV2 := Bx.mk (HV.out.later hb)
  have HX := Bx.mk hx
  have HRw := Bx.mk hr
  have HB2 := Bx.mk hb
  obtain ⟨⟨k0, k1, k2, k3⟩, -⟩ := row_four hx
  obtain ⟨p1, q1, t1, s1, a1, b1, c1, d1, hxf⟩ := hr.forms
  have kk := k0
  rw [hxf] at kk
  simp only at kk
  clear k0 k1 k2 k3 hb hx hr hxf HA HS HV HSet
  go_wp2_with fail
  have hxv : IsL w2 x.a l.a := HRw.out.a
  have hxe : w2.cell? ⟨p, 0, none⟩ = some x.a := by rw [cell_of_row _ _ _ _ _ _ HX.out]; rfl
  rw [kk] at hxe
  injection hxe with hxe
  rw [← hxe] at hxv
  refine (longer_any l.a m _ _ w2 hxv HV2.out HSum.out).mono ?_
  rintro e w3 ⟨v7, rfl, h7, hb7⟩
  rw [HNL.out] at h7
  obtain ⟨a7, c7, hv7⟩ := h7.form
  subst hv7
  have H7 := Bx.mk h7
  have HB7 := Bx.mk hb7
  clear hxv hxe kk h7 hb7
  go_wp2_with fail
  refine (twice_any (nl) _ w3 H7.out (by have := HLen.out; omega) H64.out).mono ?_
  rintro e w4 ⟨rfl, hb8⟩
  have HB8 := Bx.mk hb8
  have HSet4 : Bx (SetAt w4 p l) := ⟨SetAt.later (SetAt.later (W := w2) ⟨x, HX.out, HRw.out⟩ HB7.out) hb8⟩
  have HG4 : Bx (Below w.heap.size w w4) := ⟨(HB2.out.trans (HB7.out.mono HB2.out.size)).trans (hb8.mono (Nat.le_trans HB2.out.size HB7.out.size))⟩
  clear hb8
  cases hd : dupB (nl) with
  | true =>
    clear HX HRw H7
    go_wp2
    go_ret
    have hq : q = (8, l) := by rw [← HQ.out, if_pos hd]
    exact ⟨by rw [hq]; rfl, by rw [hq]; exact HSet4.out, kb_below _ HG4.out⟩
  | false =>
    by_cases h256 : 256 < nl.length
    · have h2 : (256 : Int) < (nl.length : Int) := by omega
      have HH := Bx.mk h256
      clear HX HRw H7 h256
      go_wp2
      go_ret
      have hq : q = (6, l) := by rw [← HQ.out, if_neg (by rw [hd]; simp), if_pos HH.out]
      exact ⟨by rw [hq]; rfl, by rw [hq]; exact HSet4.out, kb_below _ HG4.out⟩
    · have h2 : ¬ (256 : Int) < (nl.length : Int) := by omega
      have HH := Bx.mk h256
      have HX4 : Bx (w4.heap[p]? = some (.cells #[x.a, x.b, x.c, x.d] 129 (0, 0))) := ⟨by
        rw [HB8.out.block p (Nat.lt_of_lt_of_le (Array.getElem?_eq_some_iff.1 HX.out).1 HB7.out.size), HB7.out.block p (Array.getElem?_eq_some_iff.1 HX.out).1]
        exact HX.out⟩
      have HR4 : Bx (Rows4 w4 ⟨.slice a7 nl.length c7, x.b, x.c, x.d⟩ { l with a := nl }) := ⟨by
        have h1 := (HRw.out.later HB7.out).later HB8.out
        have h2 := H7.out.later HB8.out
        exact ⟨h2, h1.b, h1.c, h1.d⟩⟩
      clear HX HRw H7 h256
      go_wp2_with (refine wpList_cellS rfl _ _ rfl p 0 a7 nl.length c7 _ #[.slice a7 nl.length c7, x.b, x.c, x.d] 129 (by rfl) (by rfl) HX4.out (by simp) rfl ?_; intro w5 hg5 hr5; have H5 := Bx.mk hg5; have HR5 := Bx.mk hr5; clear hg5 hr5)
      go_ret
      have hq : q = (0, { l with a := nl }) := by rw [← HQ.out, if_neg (by rw [hd]; simp), if_neg HH.out]
      rw [hq]
      exact ⟨rfl, ⟨⟨.slice a7 nl.length c7, x.b, x.c, x.d⟩, HR5.out, HR4.out.beside HSet4.out H5.out⟩, kb_trans (kb_below _ HG4.out) H5.out⟩
set_option maxRecDepth 100000 in
set_option maxHeartbeats 1000000 in
theorem revoke_1 (v : Value) (m : List Int) (p : Nat) (l : L4) (w : World) (hs : SetAt w p l) (hg : Good l) (hv : IsL w v m) (hm : m.length ≤ 1000) (ha : allS m = true) : Calls Tryd.prog 41 #[.pointer (some ⟨p, 0, none⟩), .int .i64 1, v] w fun e w' =>
    e = .returned (.int .i64 (if dupB (l.b ++ m) = true then (8, l) else if 256 < (l.b ++ m).length then (6, l) else (0, { l with b := l.b ++ m }) : Int × L4).1) ∧ SetAt w' p (if dupB (l.b ++ m) = true then (8, l) else if 256 < (l.b ++ m).length then (6, l) else (0, { l with b := l.b ++ m }) : Int × L4).2 ∧ w.grownBy w' (some p) := by
  obtain ⟨q, hq⟩ : ∃ q, (if dupB (l.b ++ m) = true then (8, l) else if 256 < (l.b ++ m).length then (6, l) else (0, { l with b := l.b ++ m }) : Int × L4) = q := ⟨_, rfl⟩
  rw [hq]
  have HQ := Bx.mk hq
  clear hq
  have HS := Bx.mk (isSeed_in 1 (by omega) w)
  have HA := Bx.mk (allSerials_any m v w hv (by omega))
  rw [ha] at HA
  have h64 : ∀ x ∈ l.b ++ m, in64 x := fun x hx => by
    rcases List.mem_append.1 hx with hx | hx
    · exact okS_in (hg.s x (.inr (.inl hx)))
    · exact okS_in (allS_in ha x hx)
  have hlen : (l.b ++ m).length ≤ 1256 := by rw [List.length_append]; have := hg.b; omega
  have HSum : Bx (l.b.length + m.length ≤ 1000000) := ⟨by have := hg.b; omega⟩
  obtain ⟨nl, hnl⟩ : ∃ nl, l.b ++ m = nl := ⟨_, rfl⟩
  rw [hnl] at h64 hlen HQ
  have HNL := Bx.mk hnl
  have HV := Bx.mk hv
  have HSet := Bx.mk hs
  have H64 := Bx.mk h64
  have HLen := Bx.mk hlen
  obtain ⟨va, vc, rfl⟩ := hv.form
  clear hg hv hm ha hs h64 hlen hnl
  go_enter Tryd.func41, Tryd.ntmps41
  go_wp2_with fail
  refine HS.out.mono ?_
  rintro e w1 ⟨rfl, hw1⟩
  rw [hw1]
  clear hw1
  go_wp2_with fail
  refine HA.out.mono ?_
  rintro e w2 ⟨rfl, hb⟩
  obtain ⟨x, hx, hr⟩ := HSet.out.later hb
  have HV2 := Bx.mk (HV.out.later hb)
  have HX := Bx.mk hx
  have HRw := Bx.mk hr
  have HB2 := Bx.mk hb
  obtain ⟨⟨k0, k1, k2, k3⟩, -⟩ := row_four hx
  obtain ⟨p1, q1, t1, s1, a1, b1, c1, d1, hxf⟩ := hr.forms
  have kk := k1
  rw [hxf] at kk
  simp only at kk
  clear k0 k1 k2 k3 hb hx hr hxf HA HS HV HSet
  go_wp2_with fail
  have hxv : IsL w2 x.b l.b := HRw.out.b
  have hxe : w2.cell? ⟨p, 1, none⟩ = some x.b := by rw [cell_of_row _ _ _ _ _ _ HX.out]; rfl
  rw [kk] at hxe
  injection hxe with hxe
  rw [← hxe] at hxv
  refine (longer_any l.b m _ _ w2 hxv HV2.out HSum.out).mono ?_
  rintro e w3 ⟨v7, rfl, h7, hb7⟩
  rw [HNL.out] at h7
  obtain ⟨a7, c7, hv7⟩ := h7.form
  subst hv7
  have H7 := Bx.mk h7
  have HB7 := Bx.mk hb7
  clear hxv hxe kk h7 hb7
  go_wp2_with fail
  refine (twice_any (nl) _ w3 H7.out (by have := HLen.out; omega) H64.out).mono ?_
  rintro e w4 ⟨rfl, hb8⟩
  have HB8 := Bx.mk hb8
  have HSet4 : Bx (SetAt w4 p l) := ⟨SetAt.later (SetAt.later (W := w2) ⟨x, HX.out, HRw.out⟩ HB7.out) hb8⟩
  have HG4 : Bx (Below w.heap.size w w4) := ⟨(HB2.out.trans (HB7.out.mono HB2.out.size)).trans (hb8.mono (Nat.le_trans HB2.out.size HB7.out.size))⟩
  clear hb8
  cases hd : dupB (nl) with
  | true =>
    clear HX HRw H7
    go_wp2
    go_ret
    have hq : q = (8, l) := by rw [← HQ.out, if_pos hd]
    exact ⟨by rw [hq]; rfl, by rw [hq]; exact HSet4.out, kb_below _ HG4.out⟩
  | false =>
    by_cases h256 : 256 < nl.length
    · have h2 : (256 : Int) < (nl.length : Int) := by omega
      have HH := Bx.mk h256
      clear HX HRw H7 h256
      go_wp2
      go_ret
      have hq : q = (6, l) := by rw [← HQ.out, if_neg (by rw [hd]; simp), if_pos HH.out]
      exact ⟨by rw [hq]; rfl, by rw [hq]; exact HSet4.out, kb_below _ HG4.out⟩
    · have h2 : ¬ (256 : Int) < (nl.length : Int) := by omega
      have HH := Bx.mk h256
      have HX4 : Bx (w4.heap[p]? = some (.cells #[x.a, x.b, x.c, x.d] 129 (0, 0))) := ⟨by
        rw [HB8.out.block p (Nat.lt_of_lt_of_le (Array.getElem?_eq_some_iff.1 HX.out).1 HB7.out.size), HB7.out.block p (Array.getElem?_eq_some_iff.1 HX.out).1]
        exact HX.out⟩
      have HR4 : Bx (Rows4 w4 ⟨x.a, .slice a7 nl.length c7, x.c, x.d⟩ { l with b := nl }) := ⟨by
        have h1 := (HRw.out.later HB7.out).later HB8.out
        have h2 := H7.out.later HB8.out
        exact ⟨h1.a, h2, h1.c, h1.d⟩⟩
      clear HX HRw H7 h256
      go_wp2_with (refine wpList_cellS rfl _ _ rfl p 1 a7 nl.length c7 _ #[x.a, .slice a7 nl.length c7, x.c, x.d] 129 (by rfl) (by rfl) HX4.out (by simp) rfl ?_; intro w5 hg5 hr5; have H5 := Bx.mk hg5; have HR5 := Bx.mk hr5; clear hg5 hr5)
      go_ret
      have hq : q = (0, { l with b := nl }) := by rw [← HQ.out, if_neg (by rw [hd]; simp), if_neg HH.out]
      rw [hq]
      exact ⟨rfl, ⟨⟨x.a, .slice a7 nl.length c7, x.c, x.d⟩, HR5.out, HR4.out.beside HSet4.out H5.out⟩, kb_trans (kb_below _ HG4.out) H5.out⟩
set_option maxRecDepth 100000 in
set_option maxHeartbeats 1000000 in
theorem revoke_2 (v : Value) (m : List Int) (p : Nat) (l : L4) (w : World) (hs : SetAt w p l) (hg : Good l) (hv : IsL w v m) (hm : m.length ≤ 1000) (ha : allS m = true) : Calls Tryd.prog 41 #[.pointer (some ⟨p, 0, none⟩), .int .i64 2, v] w fun e w' =>
    e = .returned (.int .i64 (if dupB (l.c ++ m) = true then (8, l) else if 256 < (l.c ++ m).length then (6, l) else (0, { l with c := l.c ++ m }) : Int × L4).1) ∧ SetAt w' p (if dupB (l.c ++ m) = true then (8, l) else if 256 < (l.c ++ m).length then (6, l) else (0, { l with c := l.c ++ m }) : Int × L4).2 ∧ w.grownBy w' (some p) := by
  obtain ⟨q, hq⟩ : ∃ q, (if dupB (l.c ++ m) = true then (8, l) else if 256 < (l.c ++ m).length then (6, l) else (0, { l with c := l.c ++ m }) : Int × L4) = q := ⟨_, rfl⟩
  rw [hq]
  have HQ := Bx.mk hq
  clear hq
  have HS := Bx.mk (isSeed_in 2 (by omega) w)
  have HA := Bx.mk (allSerials_any m v w hv (by omega))
  rw [ha] at HA
  have h64 : ∀ x ∈ l.c ++ m, in64 x := fun x hx => by
    rcases List.mem_append.1 hx with hx | hx
    · exact okS_in (hg.s x (.inr (.inr (.inl hx))))
    · exact okS_in (allS_in ha x hx)
  have hlen : (l.c ++ m).length ≤ 1256 := by rw [List.length_append]; have := hg.c; omega
  have HSum : Bx (l.c.length + m.length ≤ 1000000) := ⟨by have := hg.c; omega⟩
  obtain ⟨nl, hnl⟩ : ∃ nl, l.c ++ m = nl := ⟨_, rfl⟩
  rw [hnl] at h64 hlen HQ
  have HNL := Bx.mk hnl
  have HV := Bx.mk hv
  have HSet := Bx.mk hs
  have H64 := Bx.mk h64
  have HLen := Bx.mk hlen
  obtain ⟨va, vc, rfl⟩ := hv.form
  clear hg hv hm ha hs h64 hlen hnl
  go_enter Tryd.func41, Tryd.ntmps41
  go_wp2_with fail
  refine HS.out.mono ?_
  rintro e w1 ⟨rfl, hw1⟩
  rw [hw1]
  clear hw1
  go_wp2_with fail
  refine HA.out.mono ?_
  rintro e w2 ⟨rfl, hb⟩
  obtain ⟨x, hx, hr⟩ := HSet.out.later hb
  have HV2 := Bx.mk (HV.out.later hb)
  have HX := Bx.mk hx
  have HRw := Bx.mk hr
  have HB2 := Bx.mk hb
  obtain ⟨⟨k0, k1, k2, k3⟩, -⟩ := row_four hx
  obtain ⟨p1, q1, t1, s1, a1, b1, c1, d1, hxf⟩ := hr.forms
  have kk := k2
  rw [hxf] at kk
  simp only at kk
  clear k0 k1 k2 k3 hb hx hr hxf HA HS HV HSet
  go_wp2_with fail
  have hxv : IsL w2 x.c l.c := HRw.out.c
  have hxe : w2.cell? ⟨p, 2, none⟩ = some x.c := by rw [cell_of_row _ _ _ _ _ _ HX.out]; rfl
  rw [kk] at hxe
  injection hxe with hxe
  rw [← hxe] at hxv
  refine (longer_any l.c m _ _ w2 hxv HV2.out HSum.out).mono ?_
  rintro e w3 ⟨v7, rfl, h7, hb7⟩
  rw [HNL.out] at h7
  obtain ⟨a7, c7, hv7⟩ := h7.form
  subst hv7
  have H7 := Bx.mk h7
  have HB7 := Bx.mk hb7
  clear hxv hxe kk h7 hb7
  go_wp2_with fail
  refine (twice_any (nl) _ w3 H7.out (by have := HLen.out; omega) H64.out).mono ?_
  rintro e w4 ⟨rfl, hb8⟩
  have HB8 := Bx.mk hb8
  have HSet4 : Bx (SetAt w4 p l) := ⟨SetAt.later (SetAt.later (W := w2) ⟨x, HX.out, HRw.out⟩ HB7.out) hb8⟩
  have HG4 : Bx (Below w.heap.size w w4) := ⟨(HB2.out.trans (HB7.out.mono HB2.out.size)).trans (hb8.mono (Nat.le_trans HB2.out.size HB7.out.size))⟩
  clear hb8
  cases hd : dupB (nl) with
  | true =>
    clear HX HRw H7
    go_wp2
    go_ret
    have hq : q = (8, l) := by rw [← HQ.out, if_pos hd]
    exact ⟨by rw [hq]; rfl, by rw [hq]; exact HSet4.out, kb_below _ HG4.out⟩
  | false =>
    by_cases h256 : 256 < nl.length
    · have h2 : (256 : Int) < (nl.length : Int) := by omega
      have HH := Bx.mk h256
      clear HX HRw H7 h256
      go_wp2
      go_ret
      have hq : q = (6, l) := by rw [← HQ.out, if_neg (by rw [hd]; simp), if_pos HH.out]
      exact ⟨by rw [hq]; rfl, by rw [hq]; exact HSet4.out, kb_below _ HG4.out⟩
    · have h2 : ¬ (256 : Int) < (nl.length : Int) := by omega
      have HH := Bx.mk h256
      have HX4 : Bx (w4.heap[p]? = some (.cells #[x.a, x.b, x.c, x.d] 129 (0, 0))) := ⟨by
        rw [HB8.out.block p (Nat.lt_of_lt_of_le (Array.getElem?_eq_some_iff.1 HX.out).1 HB7.out.size), HB7.out.block p (Array.getElem?_eq_some_iff.1 HX.out).1]
        exact HX.out⟩
      have HR4 : Bx (Rows4 w4 ⟨x.a, x.b, .slice a7 nl.length c7, x.d⟩ { l with c := nl }) := ⟨by
        have h1 := (HRw.out.later HB7.out).later HB8.out
        have h2 := H7.out.later HB8.out
        exact ⟨h1.a, h1.b, h2, h1.d⟩⟩
      clear HX HRw H7 h256
      go_wp2_with (refine wpList_cellS rfl _ _ rfl p 2 a7 nl.length c7 _ #[x.a, x.b, .slice a7 nl.length c7, x.d] 129 (by rfl) (by rfl) HX4.out (by simp) rfl ?_; intro w5 hg5 hr5; have H5 := Bx.mk hg5; have HR5 := Bx.mk hr5; clear hg5 hr5)
      go_ret
      have hq : q = (0, { l with c := nl }) := by rw [← HQ.out, if_neg (by rw [hd]; simp), if_neg HH.out]
      rw [hq]
      exact ⟨rfl, ⟨⟨x.a, x.b, .slice a7 nl.length c7, x.d⟩, HR5.out, HR4.out.beside HSet4.out H5.out⟩, kb_trans (kb_below _ HG4.out) H5.out⟩
set_option maxRecDepth 100000 in
set_option maxHeartbeats 1000000 in
theorem revoke_3 (v : Value) (m : List Int) (p : Nat) (l : L4) (w : World) (hs : SetAt w p l) (hg : Good l) (hv : IsL w v m) (hm : m.length ≤ 1000) (ha : allS m = true) : Calls Tryd.prog 41 #[.pointer (some ⟨p, 0, none⟩), .int .i64 3, v] w fun e w' =>
    e = .returned (.int .i64 (if dupB (l.d ++ m) = true then (8, l) else if 256 < (l.d ++ m).length then (6, l) else (0, { l with d := l.d ++ m }) : Int × L4).1) ∧ SetAt w' p (if dupB (l.d ++ m) = true then (8, l) else if 256 < (l.d ++ m).length then (6, l) else (0, { l with d := l.d ++ m }) : Int × L4).2 ∧ w.grownBy w' (some p) := by
  obtain ⟨q, hq⟩ : ∃ q, (if dupB (l.d ++ m) = true then (8, l) else if 256 < (l.d ++ m).length then (6, l) else (0, { l with d := l.d ++ m }) : Int × L4) = q := ⟨_, rfl⟩
  rw [hq]
  have HQ := Bx.mk hq
  clear hq
  have HS := Bx.mk (isSeed_in 3 (by omega) w)
  have HA := Bx.mk (allSerials_any m v w hv (by omega))
  rw [ha] at HA
  have h64 : ∀ x ∈ l.d ++ m, in64 x := fun x hx => by
    rcases List.mem_append.1 hx with hx | hx
    · exact okS_in (hg.s x (.inr (.inr (.inr hx))))
    · exact okS_in (allS_in ha x hx)
  have hlen : (l.d ++ m).length ≤ 1256 := by rw [List.length_append]; have := hg.d; omega
  have HSum : Bx (l.d.length + m.length ≤ 1000000) := ⟨by have := hg.d; omega⟩
  obtain ⟨nl, hnl⟩ : ∃ nl, l.d ++ m = nl := ⟨_, rfl⟩
  rw [hnl] at h64 hlen HQ
  have HNL := Bx.mk hnl
  have HV := Bx.mk hv
  have HSet := Bx.mk hs
  have H64 := Bx.mk h64
  have HLen := Bx.mk hlen
  obtain ⟨va, vc, rfl⟩ := hv.form
  clear hg hv hm ha hs h64 hlen hnl
  go_enter Tryd.func41, Tryd.ntmps41
  go_wp2_with fail
  refine HS.out.mono ?_
  rintro e w1 ⟨rfl, hw1⟩
  rw [hw1]
  clear hw1
  go_wp2_with fail
  refine HA.out.mono ?_
  rintro e w2 ⟨rfl, hb⟩
  obtain ⟨x, hx, hr⟩ := HSet.out.later hb
  have HV2 := Bx.mk (HV.out.later hb)
  have HX := Bx.mk hx
  have HRw := Bx.mk hr
  have HB2 := Bx.mk hb
  obtain ⟨⟨k0, k1, k2, k3⟩, -⟩ := row_four hx
  obtain ⟨p1, q1, t1, s1, a1, b1, c1, d1, hxf⟩ := hr.forms
  have kk := k3
  rw [hxf] at kk
  simp only at kk
  clear k0 k1 k2 k3 hb hx hr hxf HA HS HV HSet
  go_wp2_with fail
  have hxv : IsL w2 x.d l.d := HRw.out.d
  have hxe : w2.cell? ⟨p, 3, none⟩ = some x.d := by rw [cell_of_row _ _ _ _ _ _ HX.out]; rfl
  rw [kk] at hxe
  injection hxe with hxe
  rw [← hxe] at hxv
  refine (longer_any l.d m _ _ w2 hxv HV2.out HSum.out).mono ?_
  rintro e w3 ⟨v7, rfl, h7, hb7⟩
  rw [HNL.out] at h7
  obtain ⟨a7, c7, hv7⟩ := h7.form
  subst hv7
  have H7 := Bx.mk h7
  have HB7 := Bx.mk hb7
  clear hxv hxe kk h7 hb7
  go_wp2_with fail
  refine (twice_any (nl) _ w3 H7.out (by have := HLen.out; omega) H64.out).mono ?_
  rintro e w4 ⟨rfl, hb8⟩
  have HB8 := Bx.mk hb8
  have HSet4 : Bx (SetAt w4 p l) := ⟨SetAt.later (SetAt.later (W := w2) ⟨x, HX.out, HRw.out⟩ HB7.out) hb8⟩
  have HG4 : Bx (Below w.heap.size w w4) := ⟨(HB2.out.trans (HB7.out.mono HB2.out.size)).trans (hb8.mono (Nat.le_trans HB2.out.size HB7.out.size))⟩
  clear hb8
  cases hd : dupB (nl) with
  | true =>
    clear HX HRw H7
    go_wp2
    go_ret
    have hq : q = (8, l) := by rw [← HQ.out, if_pos hd]
    exact ⟨by rw [hq]; rfl, by rw [hq]; exact HSet4.out, kb_below _ HG4.out⟩
  | false =>
    by_cases h256 : 256 < nl.length
    · have h2 : (256 : Int) < (nl.length : Int) := by omega
      have HH := Bx.mk h256
      clear HX HRw H7 h256
      go_wp2
      go_ret
      have hq : q = (6, l) := by rw [← HQ.out, if_neg (by rw [hd]; simp), if_pos HH.out]
      exact ⟨by rw [hq]; rfl, by rw [hq]; exact HSet4.out, kb_below _ HG4.out⟩
    · have h2 : ¬ (256 : Int) < (nl.length : Int) := by omega
      have HH := Bx.mk h256
      have HX4 : Bx (w4.heap[p]? = some (.cells #[x.a, x.b, x.c, x.d] 129 (0, 0))) := ⟨by
        rw [HB8.out.block p (Nat.lt_of_lt_of_le (Array.getElem?_eq_some_iff.1 HX.out).1 HB7.out.size), HB7.out.block p (Array.getElem?_eq_some_iff.1 HX.out).1]
        exact HX.out⟩
      have HR4 : Bx (Rows4 w4 ⟨x.a, x.b, x.c, .slice a7 nl.length c7⟩ { l with d := nl }) := ⟨by
        have h1 := (HRw.out.later HB7.out).later HB8.out
        have h2 := H7.out.later HB8.out
        exact ⟨h1.a, h1.b, h1.c, h2⟩⟩
      clear HX HRw H7 h256
      go_wp2_with (refine wpList_cellS rfl _ _ rfl p 3 a7 nl.length c7 _ #[x.a, x.b, x.c, .slice a7 nl.length c7] 129 (by rfl) (by rfl) HX4.out (by simp) rfl ?_; intro w5 hg5 hr5; have H5 := Bx.mk hg5; have HR5 := Bx.mk hr5; clear hg5 hr5)
      go_ret
      have hq : q = (0, { l with d := nl }) := by rw [← HQ.out, if_neg (by rw [hd]; simp), if_neg HH.out]
      rw [hq]
      exact ⟨rfl, ⟨⟨x.a, x.b, x.c, .slice a7 nl.length c7⟩, HR5.out, HR4.out.beside HSet4.out H5.out⟩, kb_trans (kb_below _ HG4.out) H5.out⟩
/-- Revoking. -/
theorem revoke_any (n : Int) (v : Value) (m : List Int) (p : Nat) (l : L4) (w : World) (hs : SetAt w p l) (hg : Good l) (hv : IsL w v m) (hm : m.length ≤ 1000) : Calls Tryd.prog 41 #[.pointer (some ⟨p, 0, none⟩), .int .i64 n, v] w fun e w' =>
    e = .returned (.int .i64 (revL l n m).1) ∧ SetAt w' p (revL l n m).2 ∧ w.grownBy w' (some p) := by
  unfold revL
  by_cases hn : 0 ≤ n ∧ n < 4
  · cases ha : allS m with
    | false =>
      rw [if_neg (by simp)]
      refine (revoke_bad n v m p w hn hv hm ha).mono ?_
      rintro e w' ⟨rfl, hb⟩
      exact ⟨rfl, hs.later hb, kb_below _ hb⟩
    | true =>
      rw [if_pos ⟨hn.1, hn.2, rfl⟩]
      have h4 : n = 0 ∨ n = 1 ∨ n = 2 ∨ n = 3 := by omega
      rcases h4 with rfl | rfl | rfl | rfl
      · refine (revoke_0 v m p l w hs hg hv hm ha).mono ?_
        rintro e w' ⟨rfl, h1, h2⟩
        exact ⟨rfl, h1, h2⟩
      · refine (revoke_1 v m p l w hs hg hv hm ha).mono ?_
        rintro e w' ⟨rfl, h1, h2⟩
        exact ⟨rfl, h1, h2⟩
      · refine (revoke_2 v m p l w hs hg hv hm ha).mono ?_
        rintro e w' ⟨rfl, h1, h2⟩
        exact ⟨rfl, h1, h2⟩
      · refine (revoke_3 v m p l w hs hg hv hm ha).mono ?_
        rintro e w' ⟨rfl, h1, h2⟩
        exact ⟨rfl, h1, h2⟩
  · rw [if_neg (fun h => hn ⟨h.1, h.2.1⟩)]
    refine (revoke_out n v p w hn).mono ?_
    rintro e w' ⟨rfl, rfl⟩
    exact ⟨rfl, hs, kb_refl _ _⟩
end Go.Proofs.YtnfgamekjbkbkaaDoor
namespace Go.Proofs.YtnfgamekjbkbkaaDoor
open Go Go.RowKit
theorem SetV.ptr {W : World} {v : Value} {l : L4} (h : SetV W v l) : ∃ pt, v = .pointer pt := by
  rcases h with ⟨rfl, -⟩ | ⟨p, rfl, -⟩
  · exact ⟨_, rfl⟩
  · exact ⟨_, rfl⟩
set_option maxRecDepth 100000 in
theorem log_0 (v : Value) (l : L4) (w : World) (hv : SetV w v l) (hl : l.a.length ≤ 1000) : Calls Tryd.prog 74 #[v, .int .i64 0] w fun e w' => ∃ u, e = .returned u ∧ IsL w' u l.a ∧ Below w.heap.size w w' := by
  have HS := Bx.mk (isSeed_in 0 (by omega) w)
  have HO := Bx.mk (own_any8 v l w hv)
  obtain ⟨pt, rfl⟩ := hv.ptr
  have HL := Bx.mk hl
  clear hv hl
  go_enter Tryd.func74, Tryd.ntmps74
  go_wp2_with fail
  refine HS.out.mono ?_
  rintro e w1 ⟨rfl, hw1⟩
  rw [hw1]
  clear hw1 HS
  go_wp2_with fail
  refine HO.out.mono ?_
  rintro e w1 ⟨x, rfl, hx, hb⟩
  obtain ⟨p1, q1, t1, s1, a1, b1, c1, d1, rfl⟩ := hx.forms
  have i0 := idxL0 (.slice p1 l.a.length a1) (.slice q1 l.b.length b1) (.slice t1 l.c.length c1) (.slice s1 l.d.length d1)
  have HX := Bx.mk hx
  have HB := Bx.mk hb
  clear hx hb HO
  unfold VV.v
  go_wp2_with fail
  refine (longer_any [] l.a _ _ w1 (IsL.nil _) HX.out.a (by have := HL.out; simp; omega)).mono ?_
  rintro e w2 ⟨u, rfl, hu, hb2⟩
  rw [List.nil_append] at hu
  have HU := Bx.mk hu
  have HB2 := Bx.mk (HB.out.trans (hb2.mono HB.out.size))
  obtain ⟨a7, c7, rfl⟩ := hu.form
  clear hu hb2 i0 HX HB
  go_wp2
  go_ret
  exact ⟨_, rfl, HU.out, HB2.out⟩
set_option maxRecDepth 100000 in
theorem log_1 (v : Value) (l : L4) (w : World) (hv : SetV w v l) (hl : l.b.length ≤ 1000) : Calls Tryd.prog 74 #[v, .int .i64 1] w fun e w' => ∃ u, e = .returned u ∧ IsL w' u l.b ∧ Below w.heap.size w w' := by
  have HS := Bx.mk (isSeed_in 1 (by omega) w)
  have HO := Bx.mk (own_any8 v l w hv)
  obtain ⟨pt, rfl⟩ := hv.ptr
  have HL := Bx.mk hl
  clear hv hl
  go_enter Tryd.func74, Tryd.ntmps74
  go_wp2_with fail
  refine HS.out.mono ?_
  rintro e w1 ⟨rfl, hw1⟩
  rw [hw1]
  clear hw1 HS
  go_wp2_with fail
  refine HO.out.mono ?_
  rintro e w1 ⟨x, rfl, hx, hb⟩
  obtain ⟨p1, q1, t1, s1, a1, b1, c1, d1, rfl⟩ := hx.forms
  have i0 := idxL1 (.slice p1 l.a.length a1) (.slice q1 l.b.length b1) (.slice t1 l.c.length c1) (.slice s1 l.d.length d1)
  have HX := Bx.mk hx
  have HB := Bx.mk hb
  clear hx hb HO
  unfold VV.v
  go_wp2_with fail
  refine (longer_any [] l.b _ _ w1 (IsL.nil _) HX.out.b (by have := HL.out; simp; omega)).mono ?_
  rintro e w2 ⟨u, rfl, hu, hb2⟩
  rw [List.nil_append] at hu
  have HU := Bx.mk hu
  have HB2 := Bx.mk (HB.out.trans (hb2.mono HB.out.size))
  obtain ⟨a7, c7, rfl⟩ := hu.form
  clear hu hb2 i0 HX HB
  go_wp2
  go_ret
  exact ⟨_, rfl, HU.out, HB2.out⟩
set_option maxRecDepth 100000 in
theorem log_2 (v : Value) (l : L4) (w : World) (hv : SetV w v l) (hl : l.c.length ≤ 1000) : Calls Tryd.prog 74 #[v, .int .i64 2] w fun e w' => ∃ u, e = .returned u ∧ IsL w' u l.c ∧ Below w.heap.size w w' := by
  have HS := Bx.mk (isSeed_in 2 (by omega) w)
  have HO := Bx.mk (own_any8 v l w hv)
  obtain ⟨pt, rfl⟩ := hv.ptr
  have HL := Bx.mk hl
  clear hv hl
  go_enter Tryd.func74, Tryd.ntmps74
  go_wp2_with fail
  refine HS.out.mono ?_
  rintro e w1 ⟨rfl, hw1⟩
  rw [hw1]
  clear hw1 HS
  go_wp2_with fail
  refine HO.out.mono ?_
  rintro e w1 ⟨x, rfl, hx, hb⟩
  obtain ⟨p1, q1, t1, s1, a1, b1, c1, d1, rfl⟩ := hx.forms
  have i0 := idxL2 (.slice p1 l.a.length a1) (.slice q1 l.b.length b1) (.slice t1 l.c.length c1) (.slice s1 l.d.length d1)
  have HX := Bx.mk hx
  have HB := Bx.mk hb
  clear hx hb HO
  unfold VV.v
  go_wp2_with fail
  refine (longer_any [] l.c _ _ w1 (IsL.nil _) HX.out.c (by have := HL.out; simp; omega)).mono ?_
  rintro e w2 ⟨u, rfl, hu, hb2⟩
  rw [List.nil_append] at hu
  have HU := Bx.mk hu
  have HB2 := Bx.mk (HB.out.trans (hb2.mono HB.out.size))
  obtain ⟨a7, c7, rfl⟩ := hu.form
  clear hu hb2 i0 HX HB
  go_wp2
  go_ret
  exact ⟨_, rfl, HU.out, HB2.out⟩
set_option maxRecDepth 100000 in
theorem log_3 (v : Value) (l : L4) (w : World) (hv : SetV w v l) (hl : l.d.length ≤ 1000) : Calls Tryd.prog 74 #[v, .int .i64 3] w fun e w' => ∃ u, e = .returned u ∧ IsL w' u l.d ∧ Below w.heap.size w w' := by
  have HS := Bx.mk (isSeed_in 3 (by omega) w)
  have HO := Bx.mk (own_any8 v l w hv)
  obtain ⟨pt, rfl⟩ := hv.ptr
  have HL := Bx.mk hl
  clear hv hl
  go_enter Tryd.func74, Tryd.ntmps74
  go_wp2_with fail
  refine HS.out.mono ?_
  rintro e w1 ⟨rfl, hw1⟩
  rw [hw1]
  clear hw1 HS
  go_wp2_with fail
  refine HO.out.mono ?_
  rintro e w1 ⟨x, rfl, hx, hb⟩
  obtain ⟨p1, q1, t1, s1, a1, b1, c1, d1, rfl⟩ := hx.forms
  have i0 := idxL3 (.slice p1 l.a.length a1) (.slice q1 l.b.length b1) (.slice t1 l.c.length c1) (.slice s1 l.d.length d1)
  have HX := Bx.mk hx
  have HB := Bx.mk hb
  clear hx hb HO
  unfold VV.v
  go_wp2_with fail
  refine (longer_any [] l.d _ _ w1 (IsL.nil _) HX.out.d (by have := HL.out; simp; omega)).mono ?_
  rintro e w2 ⟨u, rfl, hu, hb2⟩
  rw [List.nil_append] at hu
  have HU := Bx.mk hu
  have HB2 := Bx.mk (HB.out.trans (hb2.mono HB.out.size))
  obtain ⟨a7, c7, rfl⟩ := hu.form
  clear hu hb2 i0 HX HB
  go_wp2
  go_ret
  exact ⟨_, rfl, HU.out, HB2.out⟩
end Go.Proofs.YtnfgamekjbkbkaaDoor
namespace Go.Proofs.YtnfgamekjbkbkaaDoor
open Go Go.RowKit
end Go.Proofs.YtnfgamekjbkbkaaDoor
