/-
  RevokeMerges: three sets, and the versions joined.
-/
import Derived.Test.YtmfhdhggpepbbaaDoorFl
namespace Go.Proofs.YtmfhdhggpepbbaaDoor
open Go Go.RowKit
/-- What is there when the versions are joined. -/
structure MG (v10 v14 v15 v17 v19 v21 v23 v25 v27 : Value) (a : Act) : Prop where
  fr : Fr 194 a
  s10 : a.eval (.tmp 10) = v10
  s14 : a.eval (.tmp 14) = v14
  s15 : a.eval (.tmp 15) = v15
  s17 : a.eval (.tmp 17) = v17
  s19 : a.eval (.tmp 19) = v19
  s21 : a.eval (.tmp 21) = v21
  s23 : a.eval (.tmp 23) = v23
  s25 : a.eval (.tmp 25) = v25
  s27 : a.eval (.tmp 27) = v27
/-- The three sets. -/
structure ME (w : World) (E p0 p1 p2 : Nat) (l0 l1 l2 : L4) (W : World) : Prop where
  k : KR w E [(E + 5, .cells #[.pointer (some ⟨p0, 0, none⟩), .pointer (some ⟨p1, 0, none⟩), .pointer (some ⟨p2, 0, none⟩)] 63)] W
  s0 : SetAt W p0 l0
  s1 : SetAt W p1 l1
  s2 : SetAt W p2 l2
theorem ME.later {w : World} {E p0 p1 p2 : Nat} {l0 l1 l2 : L4} {W W1 : World} (h : ME w E p0 p1 p2 l0 l1 l2 W) (hb : Below W.heap.size W W1) : ME w E p0 p1 p2 l0 l1 l2 W1 := ⟨h.k.later hb, h.s0.later hb, h.s1.later hb, h.s2.later hb⟩
theorem ME.rng {w : World} {E p0 p1 p2 : Nat} {l0 l1 l2 : L4} {W : World} (h : ME w E p0 p1 p2 l0 l1 l2 W) : W.rangeAt (E + 5) 0 [.pointer (some ⟨p0, 0, none⟩), .pointer (some ⟨p1, 0, none⟩), .pointer (some ⟨p2, 0, none⟩)] := fun j v hv => by
  rw [cell_of_row _ _ _ _ _ _ (h.k.rows _ (.head _)), Nat.zero_add]
  simpa using hv
theorem zero_v4 (W : World) : (zeroValue 39).run Tryd.prog W = .ok (.agg #[.int .i64 0, .int .i64 0, .int .i64 0, .int .i64 0]) W := by kernel_rfl
set_option maxRecDepth 100000 in
set_option maxHeartbeats 4000000 in
theorem reg24 (w : World) (E p0 p1 p2 X Y : Nat) (L : L4) (n0 n1 n2 q : N4) (h0 : n0.Le L.len) (h1 : n1.Le L.len) (h2 : n2.Le L.len) (hq : q = (n0.max n1).max n2)
    (Q : Exit → Act → World → Prop) (a : Act) (w1 : World) (h : MG (.pointer (some ⟨E + 5, 0, none⟩)) (.pointer (some ⟨X, 0, none⟩)) (.pointer (some ⟨Y, 0, none⟩)) (.int .i64 0) (.int .i64 0) (.int .i64 0) (.int .i64 0) (.int .i64 0) (.int .i64 0) a) (hs : ME w E p0 p1 p2 (L.pre n0) (L.pre n1) (L.pre n2) w1)
    (hQ : ∀ a' w' D, MG (.pointer (some ⟨E + 5, 0, none⟩)) (.pointer (some ⟨X, 0, none⟩)) (.pointer (some ⟨Y, 0, none⟩)) (.int .i64 0) (.int .i64 0) (.int .i64 0) (.int .i64 0) (.int .i64 0) (.int .i64 0) a' → a'.eval (.tmp 28) = .pointer (some ⟨D, 0, none⟩) → Below w1.heap.size w1 w' → w1.heap.size ≤ D → w'.heap[D]? = some (.cells #[.int .i64 (q.a : Int), .int .i64 (q.b : Int), .int .i64 (q.c : Int), .int .i64 (q.d : Int)] 39 (0, 0)) → Q .normal a' w') :
    Code.wp Tryd.prog (regionAt (Tryd.f5.body) 24) Q a w1 := by
  have HQ := Bx.mk hQ
  have HV0 : Bx (∀ W, SetAt W p0 (L.pre n0) → Calls Tryd.prog 21 #[.pointer (some ⟨p0, 0, none⟩)] W fun e w' => e = .returned n0.v.v ∧ Below W.heap.size W w') := ⟨fun W h => by have := versions_any (.pointer (some ⟨p0, 0, none⟩)) _ W (.inr ⟨_, rfl, h⟩); rwa [L4.pre_len h0] at this⟩
  have HV1 : Bx (∀ W, SetAt W p1 (L.pre n1) → Calls Tryd.prog 21 #[.pointer (some ⟨p1, 0, none⟩)] W fun e w' => e = .returned n1.v.v ∧ Below W.heap.size W w') := ⟨fun W h => by have := versions_any (.pointer (some ⟨p1, 0, none⟩)) _ W (.inr ⟨_, rfl, h⟩); rwa [L4.pre_len h1] at this⟩
  have HV2 : Bx (∀ W, SetAt W p2 (L.pre n2) → Calls Tryd.prog 21 #[.pointer (some ⟨p2, 0, none⟩)] W fun e w' => e = .returned n2.v.v ∧ Below W.heap.size W w') := ⟨fun W h => by have := versions_any (.pointer (some ⟨p2, 0, none⟩)) _ W (.inr ⟨_, rfl, h⟩); rwa [L4.pre_len h2] at this⟩
  have HJ1 : Bx (∀ W, Calls Tryd.prog 29 #[n0.v.v, n1.v.v] W fun e w' => e = .returned (n0.max n1).v.v ∧ Below W.heap.size W w') := ⟨fun W => by rw [← N4.join]; exact join_any8 _ _ W⟩
  have HJ2 : Bx (∀ W, Calls Tryd.prog 29 #[(n0.max n1).v.v, n2.v.v] W fun e w' => e = .returned (.agg #[.int .i64 (q.a : Int), .int .i64 (q.b : Int), .int .i64 (q.c : Int), .int .i64 (q.d : Int)]) ∧ Below W.heap.size W w') := ⟨fun W => by
    have := join_any8 (n0.max n1).v n2.v W
    rw [N4.join, ← hq] at this
    exact this⟩
  obtain ⟨A0, hA0⟩ : ∃ A, n0.v.v = A := ⟨_, rfl⟩
  obtain ⟨A1, hA1⟩ : ∃ A, n1.v.v = A := ⟨_, rfl⟩
  obtain ⟨A2, hA2⟩ : ∃ A, n2.v.v = A := ⟨_, rfl⟩
  obtain ⟨A3, hA3⟩ : ∃ A, (n0.max n1).v.v = A := ⟨_, rfl⟩
  rw [hA0] at HV0 HJ1
  rw [hA1] at HV1 HJ1
  rw [hA2] at HV2 HJ2
  rw [hA3] at HJ1 HJ2
  have hzv := zero_v4
  obtain ⟨B, hB⟩ : ∃ B, w1.heap.size = B := ⟨_, rfl⟩
  rw [hB] at HQ
  have R0 : Bx (ME w E p0 p1 p2 (L.pre n0) (L.pre n1) (L.pre n2) w1.drew ∧ KR w1 B [] w1.drew) := ⟨hs.later (Below.refl _ _).drew, by rw [← hB]; exact (KR.start w1).drew⟩
  obtain ⟨x, rfl, hx⟩ := open194 h.fr
  have e10 := (hx 10).symm.trans h.s10
  have e14 := (hx 14).symm.trans h.s14
  have e15 := (hx 15).symm.trans h.s15
  have e17 := (hx 17).symm.trans h.s17
  have e19 := (hx 19).symm.trans h.s19
  have e21 := (hx 21).symm.trans h.s21
  have e23 := (hx 23).symm.trans h.s23
  have e25 := (hx 25).symm.trans h.s25
  have e27 := (hx 27).symm.trans h.s27
  clear h hx hs h0 h1 h2 hq hQ hA0 hA1 hA2 hA3 hB
  rw [e10, e14, e15, e17, e19, e21, e23, e25, e27]
  clear e10 e14 e15 e17 e19 e21 e23 e25 e27
  conv => arg 2; whnf
  refine wp_region_noPanic ?_
  refine wp_region_held_drew (S := fun W => W.rangeAt (E + 5) 0 [.pointer (some ⟨p0, 0, none⟩), .pointer (some ⟨p1, 0, none⟩), .pointer (some ⟨p2, 0, none⟩)]) (by kernel_rfl) (R0.out.1.rng) (fun hHeld => ?_)
  generalize w1.drew = W0 at *
  refine takeL 0 (v := ?_) rfl (by kernel_rfl) (by kernel_rfl) (by kernel_rfl) (fun _ _ _ h => h) (Or.inl ⟨by rfl, ?_⟩) hHeld ?_
  rotate_left 1
  · (intro w hSw; go_simp; try with_reducible rfl)
  try simp only [Act.put, List.setIfInBounds_toArray, List.set_cons_zero, List.set_cons_succ]
  refine takeL 1 (v := ?_) rfl (by kernel_rfl) (by kernel_rfl) (by kernel_rfl) (fun _ _ _ h => h) (Or.inl ⟨by rfl, ?_⟩) hHeld ?_
  rotate_left 1
  · (intro w hSw; have c1 : w.cell? ⟨E + 5, 0, none⟩ = some _ := hSw 0 _ rfl; go_simp; try with_reducible rfl)
  try simp only [Act.put, List.setIfInBounds_toArray, List.set_cons_zero, List.set_cons_succ]
  refine takeL 3 (v := ?_) rfl (by kernel_rfl) (by kernel_rfl) (by kernel_rfl) (fun _ _ _ h => h) (Or.inl ⟨by rfl, ?_⟩) hHeld ?_
  rotate_left 1
  · (intro w hSw; go_simp; try with_reducible rfl)
  try simp only [Act.put, List.setIfInBounds_toArray, List.set_cons_zero, List.set_cons_succ]
  refine takeL 4 (v := ?_) rfl (by kernel_rfl) (by kernel_rfl) (by kernel_rfl) (fun _ _ _ h => h) (Or.inl ⟨by rfl, ?_⟩) hHeld ?_
  rotate_left 1
  · (intro w hSw; have c1 : w.cell? ⟨E + 5, 1, none⟩ = some _ := hSw 1 _ rfl; go_simp; try with_reducible rfl)
  try simp only [Act.put, List.setIfInBounds_toArray, List.set_cons_zero, List.set_cons_succ]
  refine takeL 7 (v := ?_) rfl (by kernel_rfl) (by kernel_rfl) (by kernel_rfl) (fun _ _ _ h => h) (Or.inl ⟨by rfl, ?_⟩) hHeld ?_
  rotate_left 1
  · (intro w hSw; go_simp; try with_reducible rfl)
  try simp only [Act.put, List.setIfInBounds_toArray, List.set_cons_zero, List.set_cons_succ]
  refine takeL 8 (v := ?_) rfl (by kernel_rfl) (by kernel_rfl) (by kernel_rfl) (fun _ _ _ h => h) (Or.inl ⟨by rfl, ?_⟩) hHeld ?_
  rotate_left 1
  · (intro w hSw; have c1 : w.cell? ⟨E + 5, 2, none⟩ = some _ := hSw 2 _ rfl; go_simp; try with_reducible rfl)
  try simp only [Act.put, List.setIfInBounds_toArray, List.set_cons_zero, List.set_cons_succ]
  refine wpAnyH_ready (rs := [2, 11]) (by kernel_rfl) (by simp) ?_
  refine consM 2 rfl (fun K hK => ?_) (consM 11 rfl (fun K hK => ?_) AllReadyH.nil)
  · go_simp
    refine (HV0.out W0 R0.out.1.s0).mono ?_
    rintro e W1 ⟨rfl, hb⟩
    show K _ _
    have R1 := Bx.mk (And.intro (R0.out.1.later hb) (R0.out.2.later hb))
    clear hb R0
    refine hK.out _ _ R1.out.1.rng (fun hHeld => ?_)
    clear hK K
    try simp only [Act.put, List.setIfInBounds_toArray, List.set_cons_zero, List.set_cons_succ]
    refine wpAnyH_ready (rs := [5, 11]) (by kernel_rfl) (by simp) ?_
    refine consM 5 rfl (fun K hK => ?_) (consM 11 rfl (fun K hK => ?_) AllReadyH.nil)
    · go_simp
      refine (HV1.out W1 R1.out.1.s1).mono ?_
      rintro e W2 ⟨rfl, hb⟩
      show K _ _
      have R2 := Bx.mk (And.intro (R1.out.1.later hb) (R1.out.2.later hb))
      clear hb R1
      refine hK.out _ _ R2.out.1.rng (fun hHeld => ?_)
      clear hK K
      try simp only [Act.put, List.setIfInBounds_toArray, List.set_cons_zero, List.set_cons_succ]
      refine wpAnyH_ready (rs := [6, 11]) (by kernel_rfl) (by simp) ?_
      refine consM 6 rfl (fun K hK => ?_) (consM 11 rfl (fun K hK => ?_) AllReadyH.nil)
      · go_simp
        refine (HJ1.out W2).mono ?_
        rintro e W3 ⟨rfl, hb⟩
        show K _ _
        have R3 := Bx.mk (And.intro (R2.out.1.later hb) (R2.out.2.later hb))
        clear hb R2
        refine hK.out _ _ R3.out.1.rng (fun hHeld => ?_)
        clear hK K
        try simp only [Act.put, List.setIfInBounds_toArray, List.set_cons_zero, List.set_cons_succ]
        refine wpAnyH_ready (rs := [9, 11]) (by kernel_rfl) (by simp) ?_
        refine consM 9 rfl (fun K hK => ?_) (consM 11 rfl (fun K hK => ?_) AllReadyH.nil)
        · go_simp
          refine (HV2.out W3 R3.out.1.s2).mono ?_
          rintro e W4 ⟨rfl, hb⟩
          show K _ _
          have R4 := Bx.mk (And.intro (R3.out.1.later hb) (R3.out.2.later hb))
          clear hb R3
          refine hK.out _ _ R4.out.1.rng (fun hHeld => ?_)
          clear hK K
          try simp only [Act.put, List.setIfInBounds_toArray, List.set_cons_zero, List.set_cons_succ]
          refine wpAnyH_ready (rs := [10, 11]) (by kernel_rfl) (by simp) ?_
          refine consM 10 rfl (fun K hK => ?_) (consM 11 rfl (fun K hK => ?_) AllReadyH.nil)
          · go_simp
            refine (HJ2.out W4).mono ?_
            rintro e W5 ⟨rfl, hb⟩
            show K _ _
            have R5 := Bx.mk (And.intro (R4.out.1.later hb) (R4.out.2.later hb))
            clear hb R4
            refine hK.out _ _ R5.out.1.rng (fun hHeld => ?_)
            clear hK K
            try simp only [Act.put, List.setIfInBounds_toArray, List.set_cons_zero, List.set_cons_succ]
            refine stepL 11 (by kernel_rfl) rfl (fun K hK => ?_)
            go_simp
            obtain ⟨D, hD⟩ : ∃ D, W5.heap.size = D := ⟨_, rfl⟩
            rw [hD]
            have R6 : Bx (ME w E p0 p1 p2 (L.pre n0) (L.pre n1) (L.pre n2) (W5.alloc (.cells #[.int .i64 0, .int .i64 0, .int .i64 0, .int .i64 0] 39)) ∧ KR w1 B [(D, .cells #[.int .i64 0, .int .i64 0, .int .i64 0, .int .i64 0] 39)] (W5.alloc (.cells #[.int .i64 0, .int .i64 0, .int .i64 0, .int .i64 0] 39))) := ⟨R5.out.1.later (below_a _), by rw [← hD]; exact R5.out.2.new _⟩
            have HDB : Bx (B ≤ D) := ⟨by rw [← hD]; exact R5.out.2.le⟩
            have HDE : Bx (E + 5 < D) := ⟨by rw [← hD]; exact R5.out.1.k.lt (.head _)⟩
            clear R5 hD
            generalize W5.alloc _ = W6 at *
            refine hK.out _ _ R6.out.1.rng (fun hHeld => ?_)
            clear hK K
            try simp only [Act.put, List.setIfInBounds_toArray, List.set_cons_zero, List.set_cons_succ]
            refine stepL 12 (by kernel_rfl) rfl (fun K hK => ?_)
            refine step_st rfl 39 _ _ rfl D #[.int .i64 (q.a : Int), .int .i64 (q.b : Int), .int .i64 (q.c : Int), .int .i64 (q.d : Int)] (by rfl) (by rfl) (there_row (R6.out.2.rows _ (.head _)) 0 _ (by simp)) (by kernel_rfl) (by simp [Value.oneCell']) ?_
            have hrw := heap_setCells_all (ds := #[.int .i64 (q.a : Int), .int .i64 (q.b : Int), .int .i64 (q.c : Int), .int .i64 (q.d : Int)]) (R6.out.2.rows _ (.head _)) rfl
            have hbl := below_setCells HDB.out [.int .i64 (q.a : Int), .int .i64 (q.b : Int), .int .i64 (q.c : Int), .int .i64 (q.d : Int)] 0 w1 W6 R6.out.2.below
            have hrg : (W6.setCells D 0 [.int .i64 (q.a : Int), .int .i64 (q.b : Int), .int .i64 (q.c : Int), .int .i64 (q.d : Int)]).rangeAt (E + 5) 0 [.pointer (some ⟨p0, 0, none⟩), .pointer (some ⟨p1, 0, none⟩), .pointer (some ⟨p2, 0, none⟩)] := range_grown R6.out.1.rng (kb_setCells _ _ _) (by have := HDE.out; omega)
            have R7 := Bx.mk (And.intro hrw (And.intro hbl hrg))
            clear hrw hbl hrg R6
            show K _ _
            refine hK.out _ _ R7.out.2.2 (fun hHeld => ?_)
            clear hK K
            try simp only [Act.put]
            refine wpAnyH_done (by kernel_rfl) ?_ _
            refine NoPanic.normal ?_
            clear hHeld
            exact HQ.out _ _ D ⟨⟨rfl, rfl⟩, rfl, rfl, rfl, rfl, rfl, rfl, rfl, rfl, rfl⟩ rfl R7.out.2.1 HDB.out R7.out.1
          · go_simp
            obtain ⟨D, hD⟩ : ∃ D, W4.heap.size = D := ⟨_, rfl⟩
            rw [hD]
            have R5 : Bx (ME w E p0 p1 p2 (L.pre n0) (L.pre n1) (L.pre n2) (W4.alloc (.cells #[.int .i64 0, .int .i64 0, .int .i64 0, .int .i64 0] 39)) ∧ KR w1 B [(D, .cells #[.int .i64 0, .int .i64 0, .int .i64 0, .int .i64 0] 39)] (W4.alloc (.cells #[.int .i64 0, .int .i64 0, .int .i64 0, .int .i64 0] 39))) := ⟨R4.out.1.later (below_a _), by rw [← hD]; exact R4.out.2.new _⟩
            have HDB : Bx (B ≤ D) := ⟨by rw [← hD]; exact R4.out.2.le⟩
            have HDE : Bx (E + 5 < D) := ⟨by rw [← hD]; exact R4.out.1.k.lt (.head _)⟩
            clear R4 hD
            generalize W4.alloc _ = W5 at *
            refine hK.out _ _ R5.out.1.rng (fun hHeld => ?_)
            clear hK K
            try simp only [Act.put, List.setIfInBounds_toArray, List.set_cons_zero, List.set_cons_succ]
            refine stepL 10 (by kernel_rfl) rfl (fun K hK => ?_)
            go_simp
            refine (HJ2.out W5).mono ?_
            rintro e W6 ⟨rfl, hb⟩
            show K _ _
            have R6 := Bx.mk (And.intro (R5.out.1.later hb) (R5.out.2.later hb))
            clear hb R5
            refine hK.out _ _ R6.out.1.rng (fun hHeld => ?_)
            clear hK K
            try simp only [Act.put, List.setIfInBounds_toArray, List.set_cons_zero, List.set_cons_succ]
            refine stepL 12 (by kernel_rfl) rfl (fun K hK => ?_)
            refine step_st rfl 39 _ _ rfl D #[.int .i64 (q.a : Int), .int .i64 (q.b : Int), .int .i64 (q.c : Int), .int .i64 (q.d : Int)] (by rfl) (by rfl) (there_row (R6.out.2.rows _ (.head _)) 0 _ (by simp)) (by kernel_rfl) (by simp [Value.oneCell']) ?_
            have hrw := heap_setCells_all (ds := #[.int .i64 (q.a : Int), .int .i64 (q.b : Int), .int .i64 (q.c : Int), .int .i64 (q.d : Int)]) (R6.out.2.rows _ (.head _)) rfl
            have hbl := below_setCells HDB.out [.int .i64 (q.a : Int), .int .i64 (q.b : Int), .int .i64 (q.c : Int), .int .i64 (q.d : Int)] 0 w1 W6 R6.out.2.below
            have hrg : (W6.setCells D 0 [.int .i64 (q.a : Int), .int .i64 (q.b : Int), .int .i64 (q.c : Int), .int .i64 (q.d : Int)]).rangeAt (E + 5) 0 [.pointer (some ⟨p0, 0, none⟩), .pointer (some ⟨p1, 0, none⟩), .pointer (some ⟨p2, 0, none⟩)] := range_grown R6.out.1.rng (kb_setCells _ _ _) (by have := HDE.out; omega)
            have R7 := Bx.mk (And.intro hrw (And.intro hbl hrg))
            clear hrw hbl hrg R6
            show K _ _
            refine hK.out _ _ R7.out.2.2 (fun hHeld => ?_)
            clear hK K
            try simp only [Act.put]
            refine wpAnyH_done (by kernel_rfl) ?_ _
            refine NoPanic.normal ?_
            clear hHeld
            exact HQ.out _ _ D ⟨⟨rfl, rfl⟩, rfl, rfl, rfl, rfl, rfl, rfl, rfl, rfl, rfl⟩ rfl R7.out.2.1 HDB.out R7.out.1
        · go_simp
          obtain ⟨D, hD⟩ : ∃ D, W3.heap.size = D := ⟨_, rfl⟩
          rw [hD]
          have R4 : Bx (ME w E p0 p1 p2 (L.pre n0) (L.pre n1) (L.pre n2) (W3.alloc (.cells #[.int .i64 0, .int .i64 0, .int .i64 0, .int .i64 0] 39)) ∧ KR w1 B [(D, .cells #[.int .i64 0, .int .i64 0, .int .i64 0, .int .i64 0] 39)] (W3.alloc (.cells #[.int .i64 0, .int .i64 0, .int .i64 0, .int .i64 0] 39))) := ⟨R3.out.1.later (below_a _), by rw [← hD]; exact R3.out.2.new _⟩
          have HDB : Bx (B ≤ D) := ⟨by rw [← hD]; exact R3.out.2.le⟩
          have HDE : Bx (E + 5 < D) := ⟨by rw [← hD]; exact R3.out.1.k.lt (.head _)⟩
          clear R3 hD
          generalize W3.alloc _ = W4 at *
          refine hK.out _ _ R4.out.1.rng (fun hHeld => ?_)
          clear hK K
          try simp only [Act.put, List.setIfInBounds_toArray, List.set_cons_zero, List.set_cons_succ]
          refine stepL 9 (by kernel_rfl) rfl (fun K hK => ?_)
          go_simp
          refine (HV2.out W4 R4.out.1.s2).mono ?_
          rintro e W5 ⟨rfl, hb⟩
          show K _ _
          have R5 := Bx.mk (And.intro (R4.out.1.later hb) (R4.out.2.later hb))
          clear hb R4
          refine hK.out _ _ R5.out.1.rng (fun hHeld => ?_)
          clear hK K
          try simp only [Act.put, List.setIfInBounds_toArray, List.set_cons_zero, List.set_cons_succ]
          refine stepL 10 (by kernel_rfl) rfl (fun K hK => ?_)
          go_simp
          refine (HJ2.out W5).mono ?_
          rintro e W6 ⟨rfl, hb⟩
          show K _ _
          have R6 := Bx.mk (And.intro (R5.out.1.later hb) (R5.out.2.later hb))
          clear hb R5
          refine hK.out _ _ R6.out.1.rng (fun hHeld => ?_)
          clear hK K
          try simp only [Act.put, List.setIfInBounds_toArray, List.set_cons_zero, List.set_cons_succ]
          refine stepL 12 (by kernel_rfl) rfl (fun K hK => ?_)
          refine step_st rfl 39 _ _ rfl D #[.int .i64 (q.a : Int), .int .i64 (q.b : Int), .int .i64 (q.c : Int), .int .i64 (q.d : Int)] (by rfl) (by rfl) (there_row (R6.out.2.rows _ (.head _)) 0 _ (by simp)) (by kernel_rfl) (by simp [Value.oneCell']) ?_
          have hrw := heap_setCells_all (ds := #[.int .i64 (q.a : Int), .int .i64 (q.b : Int), .int .i64 (q.c : Int), .int .i64 (q.d : Int)]) (R6.out.2.rows _ (.head _)) rfl
          have hbl := below_setCells HDB.out [.int .i64 (q.a : Int), .int .i64 (q.b : Int), .int .i64 (q.c : Int), .int .i64 (q.d : Int)] 0 w1 W6 R6.out.2.below
          have hrg : (W6.setCells D 0 [.int .i64 (q.a : Int), .int .i64 (q.b : Int), .int .i64 (q.c : Int), .int .i64 (q.d : Int)]).rangeAt (E + 5) 0 [.pointer (some ⟨p0, 0, none⟩), .pointer (some ⟨p1, 0, none⟩), .pointer (some ⟨p2, 0, none⟩)] := range_grown R6.out.1.rng (kb_setCells _ _ _) (by have := HDE.out; omega)
          have R7 := Bx.mk (And.intro hrw (And.intro hbl hrg))
          clear hrw hbl hrg R6
          show K _ _
          refine hK.out _ _ R7.out.2.2 (fun hHeld => ?_)
          clear hK K
          try simp only [Act.put]
          refine wpAnyH_done (by kernel_rfl) ?_ _
          refine NoPanic.normal ?_
          clear hHeld
          exact HQ.out _ _ D ⟨⟨rfl, rfl⟩, rfl, rfl, rfl, rfl, rfl, rfl, rfl, rfl, rfl⟩ rfl R7.out.2.1 HDB.out R7.out.1
      · go_simp
        obtain ⟨D, hD⟩ : ∃ D, W2.heap.size = D := ⟨_, rfl⟩
        rw [hD]
        have R3 : Bx (ME w E p0 p1 p2 (L.pre n0) (L.pre n1) (L.pre n2) (W2.alloc (.cells #[.int .i64 0, .int .i64 0, .int .i64 0, .int .i64 0] 39)) ∧ KR w1 B [(D, .cells #[.int .i64 0, .int .i64 0, .int .i64 0, .int .i64 0] 39)] (W2.alloc (.cells #[.int .i64 0, .int .i64 0, .int .i64 0, .int .i64 0] 39))) := ⟨R2.out.1.later (below_a _), by rw [← hD]; exact R2.out.2.new _⟩
        have HDB : Bx (B ≤ D) := ⟨by rw [← hD]; exact R2.out.2.le⟩
        have HDE : Bx (E + 5 < D) := ⟨by rw [← hD]; exact R2.out.1.k.lt (.head _)⟩
        clear R2 hD
        generalize W2.alloc _ = W3 at *
        refine hK.out _ _ R3.out.1.rng (fun hHeld => ?_)
        clear hK K
        try simp only [Act.put, List.setIfInBounds_toArray, List.set_cons_zero, List.set_cons_succ]
        refine stepL 6 (by kernel_rfl) rfl (fun K hK => ?_)
        go_simp
        refine (HJ1.out W3).mono ?_
        rintro e W4 ⟨rfl, hb⟩
        show K _ _
        have R4 := Bx.mk (And.intro (R3.out.1.later hb) (R3.out.2.later hb))
        clear hb R3
        refine hK.out _ _ R4.out.1.rng (fun hHeld => ?_)
        clear hK K
        try simp only [Act.put, List.setIfInBounds_toArray, List.set_cons_zero, List.set_cons_succ]
        refine stepL 9 (by kernel_rfl) rfl (fun K hK => ?_)
        go_simp
        refine (HV2.out W4 R4.out.1.s2).mono ?_
        rintro e W5 ⟨rfl, hb⟩
        show K _ _
        have R5 := Bx.mk (And.intro (R4.out.1.later hb) (R4.out.2.later hb))
        clear hb R4
        refine hK.out _ _ R5.out.1.rng (fun hHeld => ?_)
        clear hK K
        try simp only [Act.put, List.setIfInBounds_toArray, List.set_cons_zero, List.set_cons_succ]
        refine stepL 10 (by kernel_rfl) rfl (fun K hK => ?_)
        go_simp
        refine (HJ2.out W5).mono ?_
        rintro e W6 ⟨rfl, hb⟩
        show K _ _
        have R6 := Bx.mk (And.intro (R5.out.1.later hb) (R5.out.2.later hb))
        clear hb R5
        refine hK.out _ _ R6.out.1.rng (fun hHeld => ?_)
        clear hK K
        try simp only [Act.put, List.setIfInBounds_toArray, List.set_cons_zero, List.set_cons_succ]
        refine stepL 12 (by kernel_rfl) rfl (fun K hK => ?_)
        refine step_st rfl 39 _ _ rfl D #[.int .i64 (q.a : Int), .int .i64 (q.b : Int), .int .i64 (q.c : Int), .int .i64 (q.d : Int)] (by rfl) (by rfl) (there_row (R6.out.2.rows _ (.head _)) 0 _ (by simp)) (by kernel_rfl) (by simp [Value.oneCell']) ?_
        have hrw := heap_setCells_all (ds := #[.int .i64 (q.a : Int), .int .i64 (q.b : Int), .int .i64 (q.c : Int), .int .i64 (q.d : Int)]) (R6.out.2.rows _ (.head _)) rfl
        have hbl := below_setCells HDB.out [.int .i64 (q.a : Int), .int .i64 (q.b : Int), .int .i64 (q.c : Int), .int .i64 (q.d : Int)] 0 w1 W6 R6.out.2.below
        have hrg : (W6.setCells D 0 [.int .i64 (q.a : Int), .int .i64 (q.b : Int), .int .i64 (q.c : Int), .int .i64 (q.d : Int)]).rangeAt (E + 5) 0 [.pointer (some ⟨p0, 0, none⟩), .pointer (some ⟨p1, 0, none⟩), .pointer (some ⟨p2, 0, none⟩)] := range_grown R6.out.1.rng (kb_setCells _ _ _) (by have := HDE.out; omega)
        have R7 := Bx.mk (And.intro hrw (And.intro hbl hrg))
        clear hrw hbl hrg R6
        show K _ _
        refine hK.out _ _ R7.out.2.2 (fun hHeld => ?_)
        clear hK K
        try simp only [Act.put]
        refine wpAnyH_done (by kernel_rfl) ?_ _
        refine NoPanic.normal ?_
        clear hHeld
        exact HQ.out _ _ D ⟨⟨rfl, rfl⟩, rfl, rfl, rfl, rfl, rfl, rfl, rfl, rfl, rfl⟩ rfl R7.out.2.1 HDB.out R7.out.1
    · go_simp
      obtain ⟨D, hD⟩ : ∃ D, W1.heap.size = D := ⟨_, rfl⟩
      rw [hD]
      have R2 : Bx (ME w E p0 p1 p2 (L.pre n0) (L.pre n1) (L.pre n2) (W1.alloc (.cells #[.int .i64 0, .int .i64 0, .int .i64 0, .int .i64 0] 39)) ∧ KR w1 B [(D, .cells #[.int .i64 0, .int .i64 0, .int .i64 0, .int .i64 0] 39)] (W1.alloc (.cells #[.int .i64 0, .int .i64 0, .int .i64 0, .int .i64 0] 39))) := ⟨R1.out.1.later (below_a _), by rw [← hD]; exact R1.out.2.new _⟩
      have HDB : Bx (B ≤ D) := ⟨by rw [← hD]; exact R1.out.2.le⟩
      have HDE : Bx (E + 5 < D) := ⟨by rw [← hD]; exact R1.out.1.k.lt (.head _)⟩
      clear R1 hD
      generalize W1.alloc _ = W2 at *
      refine hK.out _ _ R2.out.1.rng (fun hHeld => ?_)
      clear hK K
      try simp only [Act.put, List.setIfInBounds_toArray, List.set_cons_zero, List.set_cons_succ]
      refine stepL 5 (by kernel_rfl) rfl (fun K hK => ?_)
      go_simp
      refine (HV1.out W2 R2.out.1.s1).mono ?_
      rintro e W3 ⟨rfl, hb⟩
      show K _ _
      have R3 := Bx.mk (And.intro (R2.out.1.later hb) (R2.out.2.later hb))
      clear hb R2
      refine hK.out _ _ R3.out.1.rng (fun hHeld => ?_)
      clear hK K
      try simp only [Act.put, List.setIfInBounds_toArray, List.set_cons_zero, List.set_cons_succ]
      refine stepL 6 (by kernel_rfl) rfl (fun K hK => ?_)
      go_simp
      refine (HJ1.out W3).mono ?_
      rintro e W4 ⟨rfl, hb⟩
      show K _ _
      have R4 := Bx.mk (And.intro (R3.out.1.later hb) (R3.out.2.later hb))
      clear hb R3
      refine hK.out _ _ R4.out.1.rng (fun hHeld => ?_)
      clear hK K
      try simp only [Act.put, List.setIfInBounds_toArray, List.set_cons_zero, List.set_cons_succ]
      refine stepL 9 (by kernel_rfl) rfl (fun K hK => ?_)
      go_simp
      refine (HV2.out W4 R4.out.1.s2).mono ?_
      rintro e W5 ⟨rfl, hb⟩
      show K _ _
      have R5 := Bx.mk (And.intro (R4.out.1.later hb) (R4.out.2.later hb))
      clear hb R4
      refine hK.out _ _ R5.out.1.rng (fun hHeld => ?_)
      clear hK K
      try simp only [Act.put, List.setIfInBounds_toArray, List.set_cons_zero, List.set_cons_succ]
      refine stepL 10 (by kernel_rfl) rfl (fun K hK => ?_)
      go_simp
      refine (HJ2.out W5).mono ?_
      rintro e W6 ⟨rfl, hb⟩
      show K _ _
      have R6 := Bx.mk (And.intro (R5.out.1.later hb) (R5.out.2.later hb))
      clear hb R5
      refine hK.out _ _ R6.out.1.rng (fun hHeld => ?_)
      clear hK K
      try simp only [Act.put, List.setIfInBounds_toArray, List.set_cons_zero, List.set_cons_succ]
      refine stepL 12 (by kernel_rfl) rfl (fun K hK => ?_)
      refine step_st rfl 39 _ _ rfl D #[.int .i64 (q.a : Int), .int .i64 (q.b : Int), .int .i64 (q.c : Int), .int .i64 (q.d : Int)] (by rfl) (by rfl) (there_row (R6.out.2.rows _ (.head _)) 0 _ (by simp)) (by kernel_rfl) (by simp [Value.oneCell']) ?_
      have hrw := heap_setCells_all (ds := #[.int .i64 (q.a : Int), .int .i64 (q.b : Int), .int .i64 (q.c : Int), .int .i64 (q.d : Int)]) (R6.out.2.rows _ (.head _)) rfl
      have hbl := below_setCells HDB.out [.int .i64 (q.a : Int), .int .i64 (q.b : Int), .int .i64 (q.c : Int), .int .i64 (q.d : Int)] 0 w1 W6 R6.out.2.below
      have hrg : (W6.setCells D 0 [.int .i64 (q.a : Int), .int .i64 (q.b : Int), .int .i64 (q.c : Int), .int .i64 (q.d : Int)]).rangeAt (E + 5) 0 [.pointer (some ⟨p0, 0, none⟩), .pointer (some ⟨p1, 0, none⟩), .pointer (some ⟨p2, 0, none⟩)] := range_grown R6.out.1.rng (kb_setCells _ _ _) (by have := HDE.out; omega)
      have R7 := Bx.mk (And.intro hrw (And.intro hbl hrg))
      clear hrw hbl hrg R6
      show K _ _
      refine hK.out _ _ R7.out.2.2 (fun hHeld => ?_)
      clear hK K
      try simp only [Act.put]
      refine wpAnyH_done (by kernel_rfl) ?_ _
      refine NoPanic.normal ?_
      clear hHeld
      exact HQ.out _ _ D ⟨⟨rfl, rfl⟩, rfl, rfl, rfl, rfl, rfl, rfl, rfl, rfl, rfl⟩ rfl R7.out.2.1 HDB.out R7.out.1
  · go_simp
    obtain ⟨D, hD⟩ : ∃ D, W0.heap.size = D := ⟨_, rfl⟩
    rw [hD]
    have R1 : Bx (ME w E p0 p1 p2 (L.pre n0) (L.pre n1) (L.pre n2) (W0.alloc (.cells #[.int .i64 0, .int .i64 0, .int .i64 0, .int .i64 0] 39)) ∧ KR w1 B [(D, .cells #[.int .i64 0, .int .i64 0, .int .i64 0, .int .i64 0] 39)] (W0.alloc (.cells #[.int .i64 0, .int .i64 0, .int .i64 0, .int .i64 0] 39))) := ⟨R0.out.1.later (below_a _), by rw [← hD]; exact R0.out.2.new _⟩
    have HDB : Bx (B ≤ D) := ⟨by rw [← hD]; exact R0.out.2.le⟩
    have HDE : Bx (E + 5 < D) := ⟨by rw [← hD]; exact R0.out.1.k.lt (.head _)⟩
    clear R0 hD
    generalize W0.alloc _ = W1 at *
    refine hK.out _ _ R1.out.1.rng (fun hHeld => ?_)
    clear hK K
    try simp only [Act.put, List.setIfInBounds_toArray, List.set_cons_zero, List.set_cons_succ]
    refine stepL 2 (by kernel_rfl) rfl (fun K hK => ?_)
    go_simp
    refine (HV0.out W1 R1.out.1.s0).mono ?_
    rintro e W2 ⟨rfl, hb⟩
    show K _ _
    have R2 := Bx.mk (And.intro (R1.out.1.later hb) (R1.out.2.later hb))
    clear hb R1
    refine hK.out _ _ R2.out.1.rng (fun hHeld => ?_)
    clear hK K
    try simp only [Act.put, List.setIfInBounds_toArray, List.set_cons_zero, List.set_cons_succ]
    refine stepL 5 (by kernel_rfl) rfl (fun K hK => ?_)
    go_simp
    refine (HV1.out W2 R2.out.1.s1).mono ?_
    rintro e W3 ⟨rfl, hb⟩
    show K _ _
    have R3 := Bx.mk (And.intro (R2.out.1.later hb) (R2.out.2.later hb))
    clear hb R2
    refine hK.out _ _ R3.out.1.rng (fun hHeld => ?_)
    clear hK K
    try simp only [Act.put, List.setIfInBounds_toArray, List.set_cons_zero, List.set_cons_succ]
    refine stepL 6 (by kernel_rfl) rfl (fun K hK => ?_)
    go_simp
    refine (HJ1.out W3).mono ?_
    rintro e W4 ⟨rfl, hb⟩
    show K _ _
    have R4 := Bx.mk (And.intro (R3.out.1.later hb) (R3.out.2.later hb))
    clear hb R3
    refine hK.out _ _ R4.out.1.rng (fun hHeld => ?_)
    clear hK K
    try simp only [Act.put, List.setIfInBounds_toArray, List.set_cons_zero, List.set_cons_succ]
    refine stepL 9 (by kernel_rfl) rfl (fun K hK => ?_)
    go_simp
    refine (HV2.out W4 R4.out.1.s2).mono ?_
    rintro e W5 ⟨rfl, hb⟩
    show K _ _
    have R5 := Bx.mk (And.intro (R4.out.1.later hb) (R4.out.2.later hb))
    clear hb R4
    refine hK.out _ _ R5.out.1.rng (fun hHeld => ?_)
    clear hK K
    try simp only [Act.put, List.setIfInBounds_toArray, List.set_cons_zero, List.set_cons_succ]
    refine stepL 10 (by kernel_rfl) rfl (fun K hK => ?_)
    go_simp
    refine (HJ2.out W5).mono ?_
    rintro e W6 ⟨rfl, hb⟩
    show K _ _
    have R6 := Bx.mk (And.intro (R5.out.1.later hb) (R5.out.2.later hb))
    clear hb R5
    refine hK.out _ _ R6.out.1.rng (fun hHeld => ?_)
    clear hK K
    try simp only [Act.put, List.setIfInBounds_toArray, List.set_cons_zero, List.set_cons_succ]
    refine stepL 12 (by kernel_rfl) rfl (fun K hK => ?_)
    refine step_st rfl 39 _ _ rfl D #[.int .i64 (q.a : Int), .int .i64 (q.b : Int), .int .i64 (q.c : Int), .int .i64 (q.d : Int)] (by rfl) (by rfl) (there_row (R6.out.2.rows _ (.head _)) 0 _ (by simp)) (by kernel_rfl) (by simp [Value.oneCell']) ?_
    have hrw := heap_setCells_all (ds := #[.int .i64 (q.a : Int), .int .i64 (q.b : Int), .int .i64 (q.c : Int), .int .i64 (q.d : Int)]) (R6.out.2.rows _ (.head _)) rfl
    have hbl := below_setCells HDB.out [.int .i64 (q.a : Int), .int .i64 (q.b : Int), .int .i64 (q.c : Int), .int .i64 (q.d : Int)] 0 w1 W6 R6.out.2.below
    have hrg : (W6.setCells D 0 [.int .i64 (q.a : Int), .int .i64 (q.b : Int), .int .i64 (q.c : Int), .int .i64 (q.d : Int)]).rangeAt (E + 5) 0 [.pointer (some ⟨p0, 0, none⟩), .pointer (some ⟨p1, 0, none⟩), .pointer (some ⟨p2, 0, none⟩)] := range_grown R6.out.1.rng (kb_setCells _ _ _) (by have := HDE.out; omega)
    have R7 := Bx.mk (And.intro hrw (And.intro hbl hrg))
    clear hrw hbl hrg R6
    show K _ _
    refine hK.out _ _ R7.out.2.2 (fun hHeld => ?_)
    clear hK K
    try simp only [Act.put]
    refine wpAnyH_done (by kernel_rfl) ?_ _
    refine NoPanic.normal ?_
    clear hHeld
    exact HQ.out _ _ D ⟨⟨rfl, rfl⟩, rfl, rfl, rfl, rfl, rfl, rfl, rfl, rfl, rfl⟩ rfl R7.out.2.1 HDB.out R7.out.1
end Go.Proofs.YtmfhdhggpepbbaaDoor
