/-
  The document's Latest and Look.
-/
import Derived.Test.YtoohcjdjmafliaaW6
namespace Go.Proofs.Ytoohcjdjmafliaa
open Go Go.RowKit
/-- The greatest of all. -/
def latN (l : List Nn) : Nn := l.foldl (fun a x => if lessN a x = true then x else a) Nn.zero
theorem takeN_succ (m : List Nn) (k : Nat) (h : k < m.length) : m.take (k + 1) = m.take k ++ [m.getD k Nn.zero] := by
  rw [List.take_succ_eq_append_getElem h, List.getD_eq_getElem?_getD, List.getElem?_eq_getElem h]; rfl
theorem latN_snoc (m : List Nn) (x : Nn) : latN (m ++ [x]) = if lessN (latN m) x = true then x else latN m := by
  unfold latN; rw [List.foldl_append]; rfl
theorem latN_succ (m : List Nn) (k : Nat) (h : k < m.length) : latN (m.take (k + 1)) = if lessN (latN (m.take k)) (m.getD k Nn.zero) = true then m.getD k Nn.zero else latN (m.take k) := by
  rw [takeN_succ m k h, latN_snoc]
/-- What the document tells of a nonce. -/
def dlookN (m : List Nn) (n : Nn) : Int := if okN n = false then 10 else if n.b < (latN m).b ∨ n.b = (latN m).b ∧ n.c ≤ (latN m).c - 64 then 9 else if n ∈ m then 8 else 0
theorem BoxN.store {T : TypeId} {X : Nat} {n : Nn} {W : World} (h : BoxN T X n W) (b c : Int) : BoxN T X ⟨b, c⟩ ((W.setCell ⟨X, 0, none⟩ (.int .i64 b)).setCell ⟨X, 1, none⟩ (.int .i64 c)) := by
  have := heap_setCells_same X _ [.int .i64 b, .int .i64 c] 0 W _ h
  exact this
theorem BoxN.frozen {T : TypeId} {X : Nat} {n : Nn} {W : World} (h : BoxN T X n W) (i : Nat) : W.frozen? ⟨X, i, none⟩ = false := frozen_of_row _ _ _ _ _ h
theorem below_set2 {B X : Nat} {a W : World} (h : Below B a W) (hX : B ≤ X) (u v : Value) : Below B a ((W.setCell ⟨X, 0, none⟩ u).setCell ⟨X, 1, none⟩ v) := below_setCells hX [u, v] 0 a W h
theorem grown_set2 (X : Nat) (W : World) (u v : Value) : W.grownBy ((W.setCell ⟨X, 0, none⟩ u).setCell ⟨X, 1, none⟩ v) (some X) := kb_setCells [u, v] 0 W
theorem rangeN_later {w w1 : World} {b o : Nat} {x : Value} {l : List Value} (h : w.rangeAt b o (x :: l)) (hb : Below w.heap.size w w1) : w1.rangeAt b o (x :: l) := fun j u hj => by
  have h1 := h j u hj
  rw [hb.cell (World.block_lt_of_cell? _ _ h1)]
  exact h1
theorem two_range {W : World} {g o : Nat} {u v : Value} (h1 : W.cell? ⟨g, o, none⟩ = some u) (h2 : W.cell? ⟨g, o + 1, none⟩ = some v) : W.rangeAt g o [u, v] := fun j x hj => by
  have hj2 : j < 2 := (List.getElem?_eq_some_iff.1 hj).1
  match j, hj2 with
  | 0, _ => injection hj with hj; rw [← hj]; exact h1
  | 1, _ => injection hj with hj; rw [← hj]; exact h2
set_option maxRecDepth 100000 in
set_option maxHeartbeats 4000000 in
theorem rlatest_any (m : List Nn) (v : Value) (w : World) (hv : NnsR w v m) (hn : m.length ≤ 1000) :
    Calls Try.prog 15 #[v] w fun e w' => e = .returned (nv (latN m)) ∧ Below w.heap.size w w' := by
  obtain ⟨a, cap, rfl, -, -, hr⟩ := hv
  obtain ⟨n, hnn⟩ : ∃ n, m.length = n := ⟨_, rfl⟩
  have HN := Bx.mk hnn
  rw [hnn] at hr hn ⊢
  have HR := Bx.mk hr
  clear hr hnn
  have hn1 : (n : Int) ≤ 1000 := by omega
  have HT : Bx (m.take n = m) := Bx.mk (by rw [← HN.out, List.take_length])
  obtain ⟨X, hX⟩ : ∃ X, w.heap.size + 1 = X := ⟨_, rfl⟩
  have HX := Bx.mk hX
  have HLs := Bx.mk fun (x y : Nn) (W : World) => rless_any x y W
  have H0 : Bx (BoxN 29 w.heap.size Nn.zero ((w.alloc (.cells #[.int .i64 0, .int .i64 0] 29)).alloc (.cells #[.int .i64 0, .int .i64 0] 29)) ∧ BoxN 29 X (latN (m.take 0)) ((w.alloc (.cells #[.int .i64 0, .int .i64 0] 29)).alloc (.cells #[.int .i64 0, .int .i64 0] 29)) ∧ Below w.heap.size w ((w.alloc (.cells #[.int .i64 0, .int .i64 0] 29)).alloc (.cells #[.int .i64 0, .int .i64 0] 29))) := Bx.mk ⟨(hold _ _ _ (by simp)).trans (hnew _ _ _ rfl), hnew _ _ _ (by rw [← hX]; simp), (below_a _).trans ((below_a _).mono (by simp))⟩
  go_enter Try.func15, Try.ntmps15
  go_wp2
  go_loopw [4] (fun i wr => ∃ k : Nat, k ≤ n ∧ i = .int .i64 (k : Int) ∧ Bx (BoxN 29 w.heap.size Nn.zero wr ∧ BoxN 29 X (latN (m.take k)) wr ∧ Below w.heap.size w wr)) (fun i _ => n - (intOf i).toNat)
  case atStart => exact ⟨0, by omega, rfl, H0⟩
  case round =>
    clear H0
    obtain ⟨k, hk, rfl, HB⟩ := hrel

    by_cases hlt : k < n
    · have t1 : (k : Int) < (n : Int) := by omega
      have t0 : (0 : Int) ≤ (k : Int) := by omega
      obtain ⟨g, o, ha, hcell⟩ := HR.out (by omega)
      subst ha
      obtain ⟨d1, d2⟩ := hcell k hlt
      have HS := Bx.mk (latN_succ m k (by rw [HN.out]; exact hlt))
      have R1 := Bx.mk (And.intro HB.out.1 (And.intro HB.out.2.1 (And.intro (two_range ((HB.out.2.2.cell (p := ⟨g, o + k * 2, none⟩) (World.block_lt_of_cell? _ _ d1)).trans d1) ((HB.out.2.2.cell (p := ⟨g, o + k * 2 + 1, none⟩) (World.block_lt_of_cell? _ _ d2)).trans d2)) HB.out.2.2)))
      have HLe := Bx.mk (HLs.out (latN (m.take k)) (m.getD k Nn.zero))
      generalize latN (m.take k) = y at *
      generalize m.getD k Nn.zero = x at *
      obtain ⟨xb, xc⟩ := x
      obtain ⟨yb, yc⟩ := y
      unfold nv at HLe
      simp only at HLe R1
      clear hcell d1 d2 HB HLs HR HT hX
      cases hl : lessN ⟨yb, yc⟩ ⟨xb, xc⟩ with
      | true =>
        have HS2 : Bx (latN (m.take (k + 1)) = ⟨xb, xc⟩) := Bx.mk (by rw [HS.out, hl]; rfl)
        rw [hl] at HLe
        clear hl HS
        go_upto_region 5 with fail
        have RD : Bx (BoxN 29 w.heap.size Nn.zero wr.drew ∧ BoxN 29 X ⟨yb, yc⟩ wr.drew ∧ wr.drew.rangeAt g (o + k * 2) [.int .i64 xb, .int .i64 xc] ∧ Below w.heap.size w wr.drew) := Bx.mk ⟨R1.out.1.later (Below.refl _ _).drew, R1.out.2.1.later (Below.refl _ _).drew, rangeN_later R1.out.2.2.1 (Below.refl _ _).drew, R1.out.2.2.2.trans ((Below.refl _ _).drew.mono R1.out.2.2.2.size)⟩
        refine wp_region_noPanic ?_
        refine wp_region_held_drew (S := fun W => W.rangeAt X 0 [.int .i64 yb, .int .i64 yc] ∧ W.rangeAt g (o + k * 2) [.int .i64 xb, .int .i64 xc]) (by kernel_rfl) (⟨RD.out.2.1.range, RD.out.2.2.1⟩) (fun hHeld => ?_)
        have R0 := RD
        clear RD R1
        generalize wr.drew = W0 at *
        refine takeL 0 rfl (by kernel_rfl) (by kernel_rfl) (by kernel_rfl) (fun _ _ _ h => h) (yieldsIf_load_mid (by rfl) _ _ rfl _ _ rfl _ _ (fun w hSw => hSw.1) Try.underlying29 rfl (by kernel_rfl)) hHeld ?_
        try simp only [Act.put, List.setIfInBounds_toArray, List.set_cons_zero, List.set_cons_succ]
        refine takeL 1 (v := ?_) rfl (by kernel_rfl) (by kernel_rfl) (by kernel_rfl) (fun _ _ _ h => h) (Or.inl ⟨by rfl, ?_⟩) hHeld ?_
        rotate_left 1
        · (intro w hSw; go_simp; try with_reducible rfl)
        try simp only [Act.put, List.setIfInBounds_toArray, List.set_cons_zero, List.set_cons_succ]
        refine takeL 2 (v := ?_) rfl (by kernel_rfl) (by kernel_rfl) (by kernel_rfl) (fun _ _ _ h => h) (Or.inl ⟨by rfl, ?_⟩) hHeld ?_
        rotate_left 1
        · (intro w hSw; go_simp; try with_reducible rfl)
        try simp only [Act.put, List.setIfInBounds_toArray, List.set_cons_zero, List.set_cons_succ]
        refine takeL 3 (v := ?_) rfl (by kernel_rfl) (by kernel_rfl) (by kernel_rfl) (fun _ _ _ h => h) (Or.inl ⟨by rfl, ?_⟩) hHeld ?_
        rotate_left 1
        · (intro w hSw; go_simp; try with_reducible rfl)
        try simp only [Act.put, List.setIfInBounds_toArray, List.set_cons_zero, List.set_cons_succ]
        refine takeL 4 rfl (by kernel_rfl) (by kernel_rfl) (by kernel_rfl) (fun _ _ _ h => h) (yieldsIf_load_mid (by rfl) _ _ rfl _ _ rfl _ _ (fun w hSw => hSw.2) Try.underlying29 rfl (by kernel_rfl)) hHeld ?_
        try simp only [Act.put, List.setIfInBounds_toArray, List.set_cons_zero, List.set_cons_succ]
        refine stepL 5 (by kernel_rfl) rfl (fun K hK => ?_)
        go_simp
        refine (HLe.out W0).mono ?_
        rintro e W1 ⟨rfl, hb⟩
        show K _ _
        have R1 : Bx (BoxN 29 w.heap.size Nn.zero W1 ∧ BoxN 29 X ⟨yb, yc⟩ W1 ∧ W1.rangeAt g (o + k * 2) [.int .i64 xb, .int .i64 xc] ∧ Below w.heap.size w W1) := Bx.mk ⟨R0.out.1.later hb, R0.out.2.1.later hb, rangeN_later R0.out.2.2.1 hb, R0.out.2.2.2.trans (hb.mono R0.out.2.2.2.size)⟩
        clear hb R0
        refine hK.out _ _ (⟨R1.out.2.1.range, R1.out.2.2.1⟩) (fun hHeld => ?_)
        clear hK K
        try simp only [Act.put, List.setIfInBounds_toArray, List.set_cons_zero, List.set_cons_succ]
        refine wpAnyH_done (by kernel_rfl) ?_ _
        refine NoPanic.normal ?_
        clear hHeld
        have x0 := R1.out.2.2.1 0 _ rfl
        have x1 := R1.out.2.2.1 1 _ rfl
        rw [Nat.add_zero] at x0
        obtain ⟨y0, y1⟩ := R1.out.2.1.cells
        have f0 := R1.out.2.1.frozen 0
        have f1 := R1.out.2.1.frozen 1
        go_wp2
        go_roundw
        case rel => exact ⟨k + 1, by omega, by go_num, Bx.mk ⟨R1.out.1.aside (grown_set2 _ _ _ _) (by have := HX.out; omega), by rw [HS2.out]; exact R1.out.2.1.store xb xc, below_set2 R1.out.2.2.2 (by have := HX.out; omega) _ _⟩⟩
        case measure => simp [intOf]; omega
      | false =>
        have HS2 : Bx (latN (m.take (k + 1)) = ⟨yb, yc⟩) := Bx.mk (by rw [HS.out, hl]; rfl)
        rw [hl] at HLe
        clear hl HS
        go_upto_region 5 with fail
        have RD : Bx (BoxN 29 w.heap.size Nn.zero wr.drew ∧ BoxN 29 X ⟨yb, yc⟩ wr.drew ∧ wr.drew.rangeAt g (o + k * 2) [.int .i64 xb, .int .i64 xc] ∧ Below w.heap.size w wr.drew) := Bx.mk ⟨R1.out.1.later (Below.refl _ _).drew, R1.out.2.1.later (Below.refl _ _).drew, rangeN_later R1.out.2.2.1 (Below.refl _ _).drew, R1.out.2.2.2.trans ((Below.refl _ _).drew.mono R1.out.2.2.2.size)⟩
        refine wp_region_noPanic ?_
        refine wp_region_held_drew (S := fun W => W.rangeAt X 0 [.int .i64 yb, .int .i64 yc] ∧ W.rangeAt g (o + k * 2) [.int .i64 xb, .int .i64 xc]) (by kernel_rfl) (⟨RD.out.2.1.range, RD.out.2.2.1⟩) (fun hHeld => ?_)
        have R0 := RD
        clear RD R1
        generalize wr.drew = W0 at *
        refine takeL 0 rfl (by kernel_rfl) (by kernel_rfl) (by kernel_rfl) (fun _ _ _ h => h) (yieldsIf_load_mid (by rfl) _ _ rfl _ _ rfl _ _ (fun w hSw => hSw.1) Try.underlying29 rfl (by kernel_rfl)) hHeld ?_
        try simp only [Act.put, List.setIfInBounds_toArray, List.set_cons_zero, List.set_cons_succ]
        refine takeL 1 (v := ?_) rfl (by kernel_rfl) (by kernel_rfl) (by kernel_rfl) (fun _ _ _ h => h) (Or.inl ⟨by rfl, ?_⟩) hHeld ?_
        rotate_left 1
        · (intro w hSw; go_simp; try with_reducible rfl)
        try simp only [Act.put, List.setIfInBounds_toArray, List.set_cons_zero, List.set_cons_succ]
        refine takeL 2 (v := ?_) rfl (by kernel_rfl) (by kernel_rfl) (by kernel_rfl) (fun _ _ _ h => h) (Or.inl ⟨by rfl, ?_⟩) hHeld ?_
        rotate_left 1
        · (intro w hSw; go_simp; try with_reducible rfl)
        try simp only [Act.put, List.setIfInBounds_toArray, List.set_cons_zero, List.set_cons_succ]
        refine takeL 3 (v := ?_) rfl (by kernel_rfl) (by kernel_rfl) (by kernel_rfl) (fun _ _ _ h => h) (Or.inl ⟨by rfl, ?_⟩) hHeld ?_
        rotate_left 1
        · (intro w hSw; go_simp; try with_reducible rfl)
        try simp only [Act.put, List.setIfInBounds_toArray, List.set_cons_zero, List.set_cons_succ]
        refine takeL 4 rfl (by kernel_rfl) (by kernel_rfl) (by kernel_rfl) (fun _ _ _ h => h) (yieldsIf_load_mid (by rfl) _ _ rfl _ _ rfl _ _ (fun w hSw => hSw.2) Try.underlying29 rfl (by kernel_rfl)) hHeld ?_
        try simp only [Act.put, List.setIfInBounds_toArray, List.set_cons_zero, List.set_cons_succ]
        refine stepL 5 (by kernel_rfl) rfl (fun K hK => ?_)
        go_simp
        refine (HLe.out W0).mono ?_
        rintro e W1 ⟨rfl, hb⟩
        show K _ _
        have R1 : Bx (BoxN 29 w.heap.size Nn.zero W1 ∧ BoxN 29 X ⟨yb, yc⟩ W1 ∧ W1.rangeAt g (o + k * 2) [.int .i64 xb, .int .i64 xc] ∧ Below w.heap.size w W1) := Bx.mk ⟨R0.out.1.later hb, R0.out.2.1.later hb, rangeN_later R0.out.2.2.1 hb, R0.out.2.2.2.trans (hb.mono R0.out.2.2.2.size)⟩
        clear hb R0
        refine hK.out _ _ (⟨R1.out.2.1.range, R1.out.2.2.1⟩) (fun hHeld => ?_)
        clear hK K
        try simp only [Act.put, List.setIfInBounds_toArray, List.set_cons_zero, List.set_cons_succ]
        refine wpAnyH_done (by kernel_rfl) ?_ _
        refine NoPanic.normal ?_
        clear hHeld
        go_wp2
        go_roundw
        case rel => exact ⟨k + 1, by omega, by go_num, Bx.mk ⟨R1.out.1, by rw [HS2.out]; exact R1.out.2.1, R1.out.2.2.2⟩⟩
        case measure => simp [intOf]; omega
    · have t1 : ¬ (k : Int) < (n : Int) := by omega
      obtain rfl : k = n := by omega
      rw [HT.out] at HB
      obtain ⟨⟨yb, yc⟩, hy⟩ : ∃ y, latN m = y := ⟨_, rfl⟩
      have HY := Bx.mk hy
      rw [hy] at HB
      clear hy
      obtain ⟨y0, y1⟩ := HB.out.2.1.cells
      obtain ⟨z0, z1⟩ := HB.out.1.cells
      have f0 := HB.out.1.frozen 0
      have f1 := HB.out.1.frozen 1
      clear HLs HR HT
      simp only [Nn.zero] at y0 y1 z0 z1
      go_wp2
      skip -- M1
      refine bodyPost_ret (results_cell_row rfl _ _ w.heap.size _ _ _ _ rfl (HB.out.1.store yb yc) Try.underlying29 rfl (by kernel_rfl)) rfl ?_
      exact ⟨by rw [HY.out]; rfl, below_set2 HB.out.2.2 (Nat.le_refl _) _ _⟩
end Go.Proofs.Ytoohcjdjmafliaa
namespace Go.Proofs.Ytoohcjdjmafliaa
open Go Go.RowKit
theorem latN_bound (m : List Nn) (h : ∀ x ∈ m, okN x = true) : 0 ≤ (latN m).b ∧ (latN m).b ≤ 65535 ∧ 0 ≤ (latN m).c ∧ (latN m).c ≤ 2147483647 := by
  have key : ∀ k, k ≤ m.length → 0 ≤ (latN (m.take k)).b ∧ (latN (m.take k)).b ≤ 65535 ∧ 0 ≤ (latN (m.take k)).c ∧ (latN (m.take k)).c ≤ 2147483647 := by
    intro k
    induction k with
    | zero => intro _; exact by simp [latN, Nn.zero]
    | succ k ih =>
      intro hk
      rw [latN_succ m k (by omega)]
      split
      · have hx : m.getD k Nn.zero ∈ m := by
          rw [List.getD_eq_getElem?_getD, List.getElem?_eq_getElem (by omega)]
          exact List.getElem_mem _
        obtain ⟨h1, h2, h3, h4⟩ := (okN_iff _).1 (h _ hx)
        exact ⟨by omega, h2, by omega, h4⟩
      · exact ih (by omega)
  have := key m.length (Nat.le_refl _)
  rwa [List.take_length] at this
set_option maxRecDepth 100000 in
set_option maxHeartbeats 4000000 in
theorem rlook12_any (m : List Nn) (v : Value) (x : Nn) (w : World) (hv : NnsR w v m) (hn : m.length ≤ 1000) (hm : ∀ x ∈ m, okN x = true) (hfx : x.fit) :
    Calls Try.prog 9 #[v, nv x] w fun e w' => e = .returned (.int .i64 (dlookN m x)) ∧ Below w.heap.size w w' := by
  have HLa := Bx.mk fun (W : World) (hb : Below w.heap.size w W) => rlatest_any m v W (hv.later hb) hn
  have HRi := Bx.mk fun (W : World) => rright12_any x W
  have hbd := latN_bound m hm
  obtain ⟨a, cap, rfl, -, -, hr⟩ := hv
  obtain ⟨n, hnn⟩ : ∃ n, m.length = n := ⟨_, rfl⟩
  have HN := Bx.mk hnn
  rw [hnn] at hr hn HLa ⊢
  have HR := Bx.mk hr
  clear hr hnn hm
  have hn1 : (n : Int) ≤ 1000 := by omega
  have HT : Bx (m.take n = m) := Bx.mk (by rw [← HN.out, List.take_length])
  have R1 : Bx (BoxN 29 w.heap.size x (w.alloc (.cells #[.int .i64 x.b, .int .i64 x.c] 29)) ∧ Below w.heap.size w (w.alloc (.cells #[.int .i64 x.b, .int .i64 x.c] 29))) := Bx.mk ⟨hnew _ _ _ rfl, below_a _⟩
  cases hok : okN x with
  | false =>
    have HV : dlookN m x = 10 := by unfold dlookN; rw [if_pos hok]
    rw [HV]
    rw [hok] at HRi
    clear hok HV HLa HR HT hbd
    obtain ⟨b, c⟩ := x
    unfold nv at HRi ⊢
    simp only at HRi R1 ⊢
    go_enter Try.func9, Try.ntmps9
    go_wp2_with fail
    refine (HRi.out _).mono ?_
    rintro e w2 ⟨rfl, hb⟩
    have R2 := Bx.mk (And.intro (R1.out.1.later hb) (R1.out.2.trans (hb.mono R1.out.2.size)))
    clear hb R1 HRi
    go_wp2
    go_ret
    exact ⟨rfl, R2.out.2⟩
  | true =>
    rw [hok] at HRi
    have hV : dlookN m x = if x.b < (latN m).b ∨ x.b = (latN m).b ∧ x.c ≤ (latN m).c - 64 then 9 else if x ∈ m then 8 else 0 := by unfold dlookN; rw [if_neg (by rw [hok]; simp)]
    rw [hV]
    clear hok hV
    generalize latN m = y at *
    obtain ⟨b, c⟩ := x
    obtain ⟨yb, yc⟩ := y
    unfold nv at HRi HLa ⊢
    simp only at HRi R1 HLa hbd ⊢
    have e1 : IntKind.i64.wrap (yc - 64) = yc - 64 := by simp [IntKind.wrap_i64]; omega
    clear hbd
    by_cases h1 : b < yb
    · rw [if_pos (.inl h1)]
      have d1 : decide (b < yb) = true := decide_eq_true h1
      go_enter Try.func9, Try.ntmps9
      go_wp2_with fail
      refine (HRi.out _).mono ?_
      rintro e w2 ⟨rfl, hb⟩
      have R2 := Bx.mk (And.intro (R1.out.1.later hb) (R1.out.2.trans (hb.mono R1.out.2.size)))
      clear hb R1 HRi
      go_wp2_with fail
      refine (HLa.out _ R2.out.2).mono ?_
      rintro e w3 ⟨rfl, hb⟩
      have R3 : Bx (BoxN 29 w.heap.size ⟨b, c⟩ (w3.alloc (.cells #[.int .i64 yb, .int .i64 yc] 29)) ∧ BoxN 29 w3.heap.size ⟨yb, yc⟩ (w3.alloc (.cells #[.int .i64 yb, .int .i64 yc] 29)) ∧ Below w.heap.size w (w3.alloc (.cells #[.int .i64 yb, .int .i64 yc] 29))) := Bx.mk (by
        have h1 := R2.out.1.later hb
        have h2 := R2.out.2.trans (hb.mono R2.out.2.size)
        exact ⟨h1.later (below_a _), hnew _ _ _ rfl, h2.trans ((below_a _).mono h2.size)⟩)
      clear hb R2 HLa
      go_upto_region 4 with fail
      generalize w3.heap.size = Y at *
      generalize w3.alloc (.cells #[.int .i64 yb, .int .i64 yc] 29) = w4 at *
      obtain ⟨x0, x1⟩ := R3.out.1.cells
      obtain ⟨y0, y1⟩ := R3.out.2.1.cells
      go_wp2
      go_ret
      exact ⟨rfl, R3.out.2.2⟩
    · have d1 : decide (b < yb) = false := decide_eq_false h1
      by_cases h2 : b = yb
      · subst h2
        have d2 : decide (b = b) = true := decide_eq_true rfl
        by_cases h3 : c ≤ yc - 64
        · rw [if_pos (.inr ⟨rfl, h3⟩)]
          go_enter Try.func9, Try.ntmps9
          go_wp2_with fail
          refine (HRi.out _).mono ?_
          rintro e w2 ⟨rfl, hb⟩
          have R2 := Bx.mk (And.intro (R1.out.1.later hb) (R1.out.2.trans (hb.mono R1.out.2.size)))
          clear hb R1 HRi
          go_wp2_with fail
          refine (HLa.out _ R2.out.2).mono ?_
          rintro e w3 ⟨rfl, hb⟩
          have R3 : Bx (BoxN 29 w.heap.size ⟨b, c⟩ (w3.alloc (.cells #[.int .i64 b, .int .i64 yc] 29)) ∧ BoxN 29 w3.heap.size ⟨b, yc⟩ (w3.alloc (.cells #[.int .i64 b, .int .i64 yc] 29)) ∧ Below w.heap.size w (w3.alloc (.cells #[.int .i64 b, .int .i64 yc] 29))) := Bx.mk (by
            have h1 := R2.out.1.later hb
            have h2 := R2.out.2.trans (hb.mono R2.out.2.size)
            exact ⟨h1.later (below_a _), hnew _ _ _ rfl, h2.trans ((below_a _).mono h2.size)⟩)
          clear hb R2 HLa
          go_upto_region 4 with fail
          generalize w3.heap.size = Y at *
          generalize w3.alloc (.cells #[.int .i64 b, .int .i64 yc] 29) = w4 at *
          obtain ⟨x0, x1⟩ := R3.out.1.cells
          obtain ⟨y0, y1⟩ := R3.out.2.1.cells
          go_wp2
          go_ret
          exact ⟨rfl, R3.out.2.2⟩
        · rw [if_neg (by omega)]
          have HV : Bx (((⟨b, c⟩ : Nn) ∈ m → (if (⟨b, c⟩ : Nn) ∈ m then (8 : Int) else 0) = 8) ∧ ((⟨b, c⟩ : Nn) ∉ m → (if (⟨b, c⟩ : Nn) ∈ m then (8 : Int) else 0) = 0)) := Bx.mk ⟨fun h => if_pos h, fun h => if_neg h⟩
          generalize (if (⟨b, c⟩ : Nn) ∈ m then (8 : Int) else 0) = V at *
          go_enter Try.func9, Try.ntmps9
          go_wp2_with fail
          refine (HRi.out _).mono ?_
          rintro e w2 ⟨rfl, hb⟩
          have R2 := Bx.mk (And.intro (R1.out.1.later hb) (R1.out.2.trans (hb.mono R1.out.2.size)))
          clear hb R1 HRi
          go_wp2_with fail
          refine (HLa.out _ R2.out.2).mono ?_
          rintro e w3 ⟨rfl, hb⟩
          have R3 : Bx (BoxN 29 w.heap.size ⟨b, c⟩ (w3.alloc (.cells #[.int .i64 b, .int .i64 yc] 29)) ∧ BoxN 29 w3.heap.size ⟨b, yc⟩ (w3.alloc (.cells #[.int .i64 b, .int .i64 yc] 29)) ∧ Below w.heap.size w (w3.alloc (.cells #[.int .i64 b, .int .i64 yc] 29))) := Bx.mk (by
            have h1 := R2.out.1.later hb
            have h2 := R2.out.2.trans (hb.mono R2.out.2.size)
            exact ⟨h1.later (below_a _), hnew _ _ _ rfl, h2.trans ((below_a _).mono h2.size)⟩)
          clear hb R2 HLa
          go_upto_region 4 with fail
          generalize w3.heap.size = Y at *
          generalize w3.alloc (.cells #[.int .i64 b, .int .i64 yc] 29) = w4 at *
          obtain ⟨x0, x1⟩ := R3.out.1.cells
          obtain ⟨y0, y1⟩ := R3.out.2.1.cells
          have H0 : Bx (BoxN 29 w.heap.size ⟨b, c⟩ w4 ∧ Below w.heap.size w w4) := Bx.mk ⟨R3.out.1, R3.out.2.2⟩
          clear R3
          go_wp2
          go_loopw [6] (fun i wr => ∃ k : Nat, k ≤ n ∧ i = .int .i64 (k : Int) ∧ Bx ((⟨b, c⟩ : Nn) ∉ m.take k) ∧ Bx (BoxN 29 w.heap.size ⟨b, c⟩ wr ∧ Below w.heap.size w wr)) (fun i _ => n - (intOf i).toNat)
          case atStart => exact ⟨0, by omega, rfl, Bx.mk (by simp), H0⟩
          case round =>
            clear H0 x0 x1 y0 y1
            obtain ⟨k, hk, rfl, HM, HB⟩ := hrel
            by_cases hlt : k < n
            · have t1 : (k : Int) < (n : Int) := by omega
              have t0 : (0 : Int) ≤ (k : Int) := by omega
              obtain ⟨g, o, ha, hcell⟩ := HR.out (by omega)
              subst ha
              obtain ⟨d1, d2⟩ := hcell k hlt
              have c1 := (HB.out.2.cell (p := ⟨g, o + k * 2, none⟩) (World.block_lt_of_cell? _ _ d1)).trans d1
              have c2 := (HB.out.2.cell (p := ⟨g, o + k * 2 + 1, none⟩) (World.block_lt_of_cell? _ _ d2)).trans d2
              obtain ⟨x0, x1⟩ := HB.out.1.cells
              have HS := Bx.mk (takeN_succ m k (by rw [HN.out]; exact hlt))
              have HMem : Bx (m.getD k Nn.zero ∈ m) := Bx.mk (by
                rw [List.getD_eq_getElem?_getD, List.getElem?_eq_getElem (by rw [HN.out]; exact hlt)]
                exact List.getElem_mem _)
              generalize m.getD k Nn.zero = x at *
              obtain ⟨xb, xc⟩ := x
              clear hcell d1 d2
              by_cases e1 : xb = b
              · subst e1
                by_cases e2 : xc = c
                · subst e2
                  have HE := Bx.mk (HV.out.1 HMem.out)
                  clear HV HM HS HMem
                  go_wp2
                  skip -- M1
                  go_quiet (fail)
                  skip -- M2
                  go_wp2
                  skip -- M3
                  go_ret
                  exact ⟨by rw [HE.out]; rfl, below_drewN HB.out.2 _⟩
                · have HM2 : Bx ((⟨xb, c⟩ : Nn) ∉ m.take (k + 1)) := Bx.mk (by
                    rw [HS.out]
                    intro h
                    rcases List.mem_append.1 h with h | h
                    · exact HM.out h
                    · have h := (Nn.eq_iff _ _).1 (List.mem_singleton.1 h)
                      exact e2 h.2.symm)
                  clear HMem HS HM
                  go_wp2
                  go_quiet (fail)
                  have HB2 := Bx.mk (And.intro (HB.out.1.later (below_drewN (Below.refl _ _) nq)) (below_drewN HB.out.2 nq))
                  generalize wr.drewN nq = w5 at *
                  go_wp2
                  go_roundw
                  case rel => exact ⟨k + 1, by omega, by go_num, HM2, HB2⟩
                  case measure => simp [intOf]; omega
              · have HM2 : Bx ((⟨b, c⟩ : Nn) ∉ m.take (k + 1)) := Bx.mk (by
                  rw [HS.out]
                  intro h
                  rcases List.mem_append.1 h with h | h
                  · exact HM.out h
                  · have h := (Nn.eq_iff _ _).1 (List.mem_singleton.1 h)
                    exact e1 h.1.symm)
                clear HMem HS HM
                go_wp2
                go_quiet (fail)
                have HB2 := Bx.mk (And.intro (HB.out.1.later (below_drewN (Below.refl _ _) nq)) (below_drewN HB.out.2 nq))
                generalize wr.drewN nq = w5 at *
                go_wp2
                go_roundw
                case rel => exact ⟨k + 1, by omega, by go_num, HM2, HB2⟩
                case measure => simp [intOf]; omega
            · have t1 : ¬ (k : Int) < (n : Int) := by omega
              obtain rfl : k = n := by omega
              have HE := Bx.mk (HV.out.2 (by have := HM.out; rw [HT.out] at this; exact this))
              go_wp2
              go_ret
              exact ⟨by rw [HE.out]; rfl, HB.out.2⟩
      · have d2 : decide (b = yb) = false := decide_eq_false h2
        rw [if_neg (by omega)]
        have HV : Bx (((⟨b, c⟩ : Nn) ∈ m → (if (⟨b, c⟩ : Nn) ∈ m then (8 : Int) else 0) = 8) ∧ ((⟨b, c⟩ : Nn) ∉ m → (if (⟨b, c⟩ : Nn) ∈ m then (8 : Int) else 0) = 0)) := Bx.mk ⟨fun h => if_pos h, fun h => if_neg h⟩
        generalize (if (⟨b, c⟩ : Nn) ∈ m then (8 : Int) else 0) = V at *
        go_enter Try.func9, Try.ntmps9
        go_wp2_with fail
        refine (HRi.out _).mono ?_
        rintro e w2 ⟨rfl, hb⟩
        have R2 := Bx.mk (And.intro (R1.out.1.later hb) (R1.out.2.trans (hb.mono R1.out.2.size)))
        clear hb R1 HRi
        go_wp2_with fail
        refine (HLa.out _ R2.out.2).mono ?_
        rintro e w3 ⟨rfl, hb⟩
        have R3 : Bx (BoxN 29 w.heap.size ⟨b, c⟩ (w3.alloc (.cells #[.int .i64 yb, .int .i64 yc] 29)) ∧ BoxN 29 w3.heap.size ⟨yb, yc⟩ (w3.alloc (.cells #[.int .i64 yb, .int .i64 yc] 29)) ∧ Below w.heap.size w (w3.alloc (.cells #[.int .i64 yb, .int .i64 yc] 29))) := Bx.mk (by
          have h1 := R2.out.1.later hb
          have h2 := R2.out.2.trans (hb.mono R2.out.2.size)
          exact ⟨h1.later (below_a _), hnew _ _ _ rfl, h2.trans ((below_a _).mono h2.size)⟩)
        clear hb R2 HLa
        go_upto_region 4 with fail
        generalize w3.heap.size = Y at *
        generalize w3.alloc (.cells #[.int .i64 yb, .int .i64 yc] 29) = w4 at *
        obtain ⟨x0, x1⟩ := R3.out.1.cells
        obtain ⟨y0, y1⟩ := R3.out.2.1.cells
        have H0 : Bx (BoxN 29 w.heap.size ⟨b, c⟩ w4 ∧ Below w.heap.size w w4) := Bx.mk ⟨R3.out.1, R3.out.2.2⟩
        clear R3
        go_wp2
        go_loopw [6] (fun i wr => ∃ k : Nat, k ≤ n ∧ i = .int .i64 (k : Int) ∧ Bx ((⟨b, c⟩ : Nn) ∉ m.take k) ∧ Bx (BoxN 29 w.heap.size ⟨b, c⟩ wr ∧ Below w.heap.size w wr)) (fun i _ => n - (intOf i).toNat)
        case atStart => exact ⟨0, by omega, rfl, Bx.mk (by simp), H0⟩
        case round =>
          clear H0 x0 x1 y0 y1
          obtain ⟨k, hk, rfl, HM, HB⟩ := hrel
          by_cases hlt : k < n
          · have t1 : (k : Int) < (n : Int) := by omega
            have t0 : (0 : Int) ≤ (k : Int) := by omega
            obtain ⟨g, o, ha, hcell⟩ := HR.out (by omega)
            subst ha
            obtain ⟨d1, d2⟩ := hcell k hlt
            have c1 := (HB.out.2.cell (p := ⟨g, o + k * 2, none⟩) (World.block_lt_of_cell? _ _ d1)).trans d1
            have c2 := (HB.out.2.cell (p := ⟨g, o + k * 2 + 1, none⟩) (World.block_lt_of_cell? _ _ d2)).trans d2
            obtain ⟨x0, x1⟩ := HB.out.1.cells
            have HS := Bx.mk (takeN_succ m k (by rw [HN.out]; exact hlt))
            have HMem : Bx (m.getD k Nn.zero ∈ m) := Bx.mk (by
              rw [List.getD_eq_getElem?_getD, List.getElem?_eq_getElem (by rw [HN.out]; exact hlt)]
              exact List.getElem_mem _)
            generalize m.getD k Nn.zero = x at *
            obtain ⟨xb, xc⟩ := x
            clear hcell d1 d2
            by_cases e1 : xb = b
            · subst e1
              by_cases e2 : xc = c
              · subst e2
                have HE := Bx.mk (HV.out.1 HMem.out)
                clear HV HM HS HMem
                go_wp2
                skip -- M1
                go_quiet (fail)
                skip -- M2
                go_wp2
                skip -- M3
                go_ret
                exact ⟨by rw [HE.out]; rfl, below_drewN HB.out.2 _⟩
              · have HM2 : Bx ((⟨xb, c⟩ : Nn) ∉ m.take (k + 1)) := Bx.mk (by
                  rw [HS.out]
                  intro h
                  rcases List.mem_append.1 h with h | h
                  · exact HM.out h
                  · have h := (Nn.eq_iff _ _).1 (List.mem_singleton.1 h)
                    exact e2 h.2.symm)
                clear HMem HS HM
                go_wp2
                go_quiet (fail)
                have HB2 := Bx.mk (And.intro (HB.out.1.later (below_drewN (Below.refl _ _) nq)) (below_drewN HB.out.2 nq))
                generalize wr.drewN nq = w5 at *
                go_wp2
                go_roundw
                case rel => exact ⟨k + 1, by omega, by go_num, HM2, HB2⟩
                case measure => simp [intOf]; omega
            · have HM2 : Bx ((⟨b, c⟩ : Nn) ∉ m.take (k + 1)) := Bx.mk (by
                rw [HS.out]
                intro h
                rcases List.mem_append.1 h with h | h
                · exact HM.out h
                · have h := (Nn.eq_iff _ _).1 (List.mem_singleton.1 h)
                  exact e1 h.1.symm)
              clear HMem HS HM
              go_wp2
              go_quiet (fail)
              have HB2 := Bx.mk (And.intro (HB.out.1.later (below_drewN (Below.refl _ _) nq)) (below_drewN HB.out.2 nq))
              generalize wr.drewN nq = w5 at *
              go_wp2
              go_roundw
              case rel => exact ⟨k + 1, by omega, by go_num, HM2, HB2⟩
              case measure => simp [intOf]; omega
          · have t1 : ¬ (k : Int) < (n : Int) := by omega
            obtain rfl : k = n := by omega
            have HE := Bx.mk (HV.out.2 (by have := HM.out; rw [HT.out] at this; exact this))
            go_wp2
            go_ret
            exact ⟨by rw [HE.out]; rfl, HB.out.2⟩
end Go.Proofs.Ytoohcjdjmafliaa
namespace Go.Proofs.Ytoohcjdjmafliaa
open Go Go.RowKit
theorem lessN_iff (a b : Nn) : lessN a b = true ↔ a.b < b.b ∨ a.b = b.b ∧ a.c < b.c := by
  unfold lessN
  exact decide_eq_true_iff
theorem lessN_irrefl (a : Nn) : lessN a a = false := by
  cases h : lessN a a
  · rfl
  · have := (lessN_iff a a).1 h; omega
theorem lessN_trans {a b c : Nn} (h1 : lessN a b = true) (h2 : lessN b c = true) : lessN a c = true := by
  rw [lessN_iff] at *
  omega
/-- None is greater than the latest. -/
theorem latN_max (m : List Nn) : ∀ x ∈ m, lessN (latN m) x = false := by
  have key : ∀ k, k ≤ m.length → ∀ x ∈ m.take k, lessN (latN (m.take k)) x = false := by
    intro k
    induction k with
    | zero => intro _ x hx; simp at hx
    | succ k ih =>
      intro hk x hx
      rw [takeN_succ m k (by omega)] at hx
      rw [latN_succ m k (by omega)]
      generalize m.getD k Nn.zero = y at *
      cases hl : lessN (latN (m.take k)) y with
      | true =>
        rw [if_pos rfl]
        rcases List.mem_append.1 hx with hx | hx
        · have h1 := ih (by omega) x hx
          cases h2 : lessN y x
          · rfl
          · rw [lessN_trans hl h2] at h1; cases h1
        · rw [List.mem_singleton.1 hx]; exact lessN_irrefl y
      | false =>
        rw [if_neg (by simp)]
        rcases List.mem_append.1 hx with hx | hx
        · exact ih (by omega) x hx
        · rw [List.mem_singleton.1 hx]; exact hl
  have := key m.length (Nat.le_refl _)
  rwa [List.take_length] at this
/-- What a window and a list of nonces hold alike. -/
structure RelW (m : List Nn) (s : Ws) : Prop where
  lat : s.n = latN m
  ok : ∀ x ∈ m, okN x = true
  bits : ∀ d : Nat, d < 64 → s.t.getLsbD d = decide ((⟨s.n.b, s.n.c - (d : Int)⟩ : Nn) ∈ m)
theorem RelW.start : RelW [] Ws.zero := ⟨rfl, fun x hx => by simp at hx, fun d hd => by simp [Ws.zero]⟩
theorem RelW.none {m : List Nn} {s : Ws} (h : RelW m s) {x : Nn} (hx : s.n.b < x.b ∨ s.n.b = x.b ∧ s.n.c < x.c) : x ∉ m := fun hm => by
  have h1 := latN_max m x hm
  rw [← h.lat, (lessN_iff _ _).2 hx] at h1
  cases h1
theorem and_bit (t : BitVec 64) (d : Nat) (hd : d < 64) : (t &&& (1#64 <<< d) = 0#64) ↔ t.getLsbD d = false := by
  constructor
  · intro h
    have h1 : (t &&& (1#64 <<< d)).getLsbD d = false := by rw [h]; simp
    rw [BitVec.getLsbD_and, BitVec.getLsbD_shiftLeft] at h1
    simpa [hd] using h1
  · intro h
    apply BitVec.eq_of_getLsbD_eq
    intro i hi
    rw [BitVec.getLsbD_and, BitVec.getLsbD_shiftLeft]
    by_cases e : i = d
    · subst e; rw [h]; simp
    · by_cases e2 : i < d
      · simp [e2]
      · have : (1#64).getLsbD (i - d) = false := by
          rw [BitVec.getLsbD_one]
          simp
          omega
        rw [this]; simp
theorem RelW.look {m : List Nn} {s : Ws} (h : RelW m s) (n : Nn) : lookW s n = dlookN m n := by
  unfold lookW dlookN
  cases hok : okN n with
  | false => rw [if_pos rfl, if_pos rfl]
  | true =>
    rw [if_neg (show ¬ (true = false) by simp), if_neg (show ¬ (true = false) by simp), ← h.lat]
    obtain ⟨n1, n2, n3, n4⟩ := (okN_iff n).1 hok
    by_cases hf : n.b < s.n.b ∨ n.b = s.n.b ∧ n.c ≤ s.n.c - 64
    · rw [if_pos hf, if_pos]
      unfold forgW
      exact decide_eq_true (by omega)
    · rw [if_neg hf, if_neg (by unfold forgW; rw [decide_eq_false (by omega)]; simp)]
      unfold bitW
      by_cases hb : n.b = s.n.b ∧ n.c ≤ s.n.c
      · rw [if_pos hb]
        obtain ⟨d, hd⟩ : ∃ d : Nat, s.n.c - n.c = (d : Int) := ⟨(s.n.c - n.c).toNat, by omega⟩
        rw [hd, Int.toNat_natCast]
        have hd64 : d < 64 := by omega
        have hn : (⟨s.n.b, s.n.c - (d : Int)⟩ : Nn) = n := Nn.ext' hb.1.symm (by show s.n.c - (d : Int) = n.c; omega)
        have hbit := h.bits d hd64
        rw [hn] at hbit
        by_cases hm : n ∈ m
        · rw [if_pos hm, if_neg]
          rw [and_bit _ _ hd64, hbit, decide_eq_true hm]
          simp
        · rw [if_neg hm, if_pos]
          rw [and_bit _ _ hd64, hbit, decide_eq_false hm]
      · rw [if_neg hb, if_neg (h.none (by omega)), if_pos (by simp)]
theorem RelW.take {m : List Nn} {s : Ws} (h : RelW m s) {n : Nn} (h0 : lookW s n = 0) : RelW (m ++ [n]) (takeW s n) := by
  have hok : okN n = true := by
    unfold lookW at h0
    split at h0
    · omega
    · rename_i h1; simpa using h1
  have hfo : forgW s n = false := by
    unfold lookW at h0
    rw [if_neg (by rw [hok]; simp)] at h0
    split at h0
    · omega
    · rename_i h1; simpa using h1
  obtain ⟨n1, n2, n3, n4⟩ := (okN_iff n).1 hok
  have hf : ¬ (n.b < s.n.b ∨ n.b = s.n.b ∧ 64 ≤ s.n.c - n.c) := by unfold forgW at hfo; exact of_decide_eq_false hfo
  have hmem : ∀ x : Nn, decide (x ∈ m ++ [n]) = (decide (x ∈ m) || decide (x = n)) := fun x => by
    by_cases h1 : x ∈ m <;> by_cases h2 : x = n <;> simp [h1, h2]
  have hok' : ∀ x ∈ m ++ [n], okN x = true := fun x hx => by
    rcases List.mem_append.1 hx with hx | hx
    · exact h.ok x hx
    · rw [List.mem_singleton.1 hx]; exact hok
  unfold takeW
  rw [if_pos h0]
  cases hl : lessN s.n n with
  | true =>
    rw [if_pos rfl]
    have hl' := (lessN_iff _ _).1 hl
    refine ⟨?_, hok', ?_⟩
    · show n = _
      rw [latN_snoc, ← h.lat, hl, if_pos rfl]
    · intro d hd
      show ((riseW s n).t ||| bitW (riseW s n) n).getLsbD d = decide ((⟨n.b, n.c - (d : Int)⟩ : Nn) ∈ m ++ [n])
      have e1 : bitW (riseW s n) n = 1#64 := by
        unfold bitW
        rw [if_pos ⟨rfl, Int.le_refl _⟩, show (riseW s n).n.c - n.c = 0 from Int.sub_self _]
        rfl
      rw [e1, BitVec.getLsbD_or, hmem]
      have e2 : (1#64).getLsbD d = decide ((⟨n.b, n.c - (d : Int)⟩ : Nn) = n) := by
        rw [BitVec.getLsbD_one]
        by_cases hd0 : d = 0
        · subst hd0
          have e0 : (⟨n.b, n.c - ((0 : Nat) : Int)⟩ : Nn) = n := Nn.ext' rfl (by show n.c - ((0 : Nat) : Int) = n.c; omega)
          rw [e0]
          simp
        · have e0 : ¬ (⟨n.b, n.c - (d : Int)⟩ : Nn) = n := fun e => by have := ((Nn.eq_iff _ _).1 e).2; simp only at this; omega
          rw [decide_eq_false e0]
          simp [hd0]
      rw [e2]
      congr 1
      unfold riseW
      by_cases hb : n.b = s.n.b
      · show (if n.b = s.n.b then s.t <<< (n.c - s.n.c).toNat else 0#64).getLsbD d = _
        rw [if_pos hb]
        obtain ⟨k, hk⟩ : ∃ k : Nat, n.c - s.n.c = (k : Int) := ⟨(n.c - s.n.c).toNat, by omega⟩
        rw [hk, Int.toNat_natCast, BitVec.getLsbD_shiftLeft]
        by_cases hdk : d < k
        · have e0 : (⟨n.b, n.c - (d : Int)⟩ : Nn) ∉ m := h.none (.inr ⟨hb.symm, by show s.n.c < n.c - (d : Int); omega⟩)
          rw [decide_eq_false e0]
          simp [hdk]
        · have hb2 := h.bits (d - k) (by omega)
          rw [hb2, hb]
          have e3 : s.n.c - ((d - k : Nat) : Int) = n.c - (d : Int) := by omega
          rw [e3]
          simp [hd, hdk]
      · show (if n.b = s.n.b then s.t <<< (n.c - s.n.c).toNat else 0#64).getLsbD d = _
        have e0 : (⟨n.b, n.c - (d : Int)⟩ : Nn) ∉ m := h.none (.inl (by show s.n.b < n.b; omega))
        rw [if_neg hb, decide_eq_false e0]
        simp
  | false =>
    rw [if_neg (by simp)]
    have hl' : ¬ (s.n.b < n.b ∨ s.n.b = n.b ∧ s.n.c < n.c) := fun e => by rw [(lessN_iff _ _).2 e] at hl; cases hl
    have hb : n.b = s.n.b := by omega
    refine ⟨?_, hok', ?_⟩
    · show s.n = _
      rw [latN_snoc, ← h.lat, hl, if_neg (by simp)]
    · intro d hd
      show (s.t ||| bitW s n).getLsbD d = decide ((⟨s.n.b, s.n.c - (d : Int)⟩ : Nn) ∈ m ++ [n])
      rw [BitVec.getLsbD_or, hmem, h.bits d hd]
      congr 1
      unfold bitW
      rw [if_pos ⟨hb, by omega⟩]
      obtain ⟨k, hk⟩ : ∃ k : Nat, s.n.c - n.c = (k : Int) := ⟨(s.n.c - n.c).toNat, by omega⟩
      rw [hk, Int.toNat_natCast, BitVec.getLsbD_shiftLeft, BitVec.getLsbD_one]
      by_cases e : d = k
      · subst e
        have e0 : (⟨s.n.b, s.n.c - (d : Int)⟩ : Nn) = n := Nn.ext' hb.symm (by show s.n.c - (d : Int) = n.c; omega)
        rw [decide_eq_true e0]
        simp [hd]
      · have e0 : ¬ (⟨s.n.b, s.n.c - (d : Int)⟩ : Nn) = n := fun e' => by have := ((Nn.eq_iff _ _).1 e').2; simp only at this; omega
        rw [decide_eq_false e0]
        by_cases h2 : d < k
        · simp [h2]
        · have : d - k ≠ 0 := by omega
          simp [this]
theorem RelW.keep {m : List Nn} {s : Ws} (h : RelW m s) {n : Nn} (h0 : lookW s n ≠ 0) : takeW s n = s := by unfold takeW; rw [if_neg h0]
end Go.Proofs.Ytoohcjdjmafliaa
namespace Go.Proofs.Ytoohcjdjmafliaa
open Go Go.RowKit
/-- A counter in its block. -/
def CouB (W : World) (p : Nat) (n : Nn) : Prop := W.heap[p]? = some (.cells #[.int .i64 n.b, .int .i64 n.c] 70 (0, 0))
theorem CouB.lt {W : World} {p : Nat} {n : Nn} (h : CouB W p n) : p < W.heap.size := (Array.getElem?_eq_some_iff.1 h).1
theorem CouB.later {W W1 : World} {p : Nat} {n : Nn} (h : CouB W p n) (hb : Below W.heap.size W W1) : CouB W1 p n := (hb.block p h.lt).trans h
theorem CouB.aside {W W1 : World} {p q : Nat} {n : Nn} (h : CouB W p n) (hg : W.grownBy W1 (some q)) (hne : p ≠ q) : CouB W1 p n := (hg.block p h.lt (fun e => hne (by injection e))).trans h
theorem CouB.cells {W : World} {p : Nat} {n : Nn} (h : CouB W p n) : W.cell? ⟨p, 0, none⟩ = some (.int .i64 n.b) ∧ W.cell? ⟨p, 1, none⟩ = some (.int .i64 n.c) :=
  ⟨by rw [cell_of_row _ _ _ _ _ _ h]; rfl, by rw [cell_of_row _ _ _ _ _ _ h]; rfl⟩
theorem CouB.frozen {W : World} {p : Nat} {n : Nn} (h : CouB W p n) (i : Nat) : W.frozen? ⟨p, i, none⟩ = false := frozen_of_row _ _ _ _ _ h
end Go.Proofs.Ytoohcjdjmafliaa
namespace Go.Proofs.Ytoohcjdjmafliaa
open Go Go.RowKit
set_option maxRecDepth 100000 in
set_option maxHeartbeats 4000000 in
theorem latest_any (q : Nat) (s : Ws) (w : World) (h : WinB w q s) : Calls Try.prog 14 #[.pointer (some ⟨q, 0, none⟩)] w fun e w' => e = .returned (nv s.n) ∧ Below w.heap.size w w' := by
  have hq := h.lt
  have hne : q ≠ w.heap.size := by omega
  have hL := h.later (below_a (.cells #[.int .i64 0, .int .i64 0] 24))
  obtain ⟨c0, c1, c2⟩ := hL.cells
  obtain ⟨⟨b, c⟩, T⟩ := s
  simp only at c0 c1 c2
  unfold nv
  clear h hL hq c2
  go_enter Try.func14, Try.ntmps14
  go_wp2
  skip -- M2
  refine bodyPost_ret (results_cell_row rfl _ _ w.heap.size _ _ _ _ rfl (hnew _ _ _ rfl) Try.underlying24 rfl (by kernel_rfl)) rfl ?_
  exact ⟨rfl, below_a _⟩
set_option maxRecDepth 100000 in
set_option maxHeartbeats 4000000 in
theorem taken_any12 (pv : Value) (lk : Nn → Int) (v : Value) (l : List Nn) (w : World) (hv : NnsR w v l) (hn : l.length ≤ 1000)
    (HL : ∀ W n, Below w.heap.size w W → Calls Try.prog 10 #[pv, nv n] W fun e w' => e = .returned (.int .i64 (lk n)) ∧ Below W.heap.size W w') :
    Calls Try.prog 17 #[pv, v] w fun e w' => e = .returned (.int .i64 ((l.countP fun n => decide (lk n = 8) : Nat) : Int)) ∧ Below w.heap.size w w' := by
  obtain ⟨a, cap, rfl, -, -, hr⟩ := hv
  obtain ⟨n, hnn⟩ : ∃ n, l.length = n := ⟨_, rfl⟩
  have HN := Bx.mk hnn
  rw [hnn] at hr hn ⊢
  have HR := Bx.mk hr
  have HLk := Bx.mk HL
  clear hr hnn HL
  have hn1 : (n : Int) ≤ 1000 := by omega
  have HT : Bx (l.take n = l) := Bx.mk (by rw [← HN.out, List.take_length])
  go_enter Try.func17, Try.ntmps17
  go_wp2
  go_loopw [5, 10] (fun c i wr => ∃ k : Nat, k ≤ n ∧ c = .int .i64 (((l.take k).countP fun n => decide (lk n = 8) : Nat) : Int) ∧ i = .int .i64 (k : Int) ∧ Bx (Below w.heap.size w wr)) (fun _ i _ => n - (intOf i).toNat)
  case atStart => exact ⟨0, by omega, rfl, rfl, Bx.mk (Below.refl _ _)⟩
  case round =>
    obtain ⟨k, hk, rfl, rfl, HB⟩ := hrel
    by_cases hlt : k < n
    · have t1 : (k : Int) < (n : Int) := by omega
      have t0 : (0 : Int) ≤ (k : Int) := by omega
      obtain ⟨g, o, ha, hcell⟩ := HR.out (by omega)
      subst ha
      obtain ⟨d1, d2⟩ := hcell k hlt
      have c1 := (HB.out.cell (p := ⟨g, o + k * 2, none⟩) (World.block_lt_of_cell? _ _ d1)).trans d1
      have c2 := (HB.out.cell (p := ⟨g, o + k * 2 + 1, none⟩) (World.block_lt_of_cell? _ _ d2)).trans d2
      have HS : Bx ((l.take (k + 1)).countP (fun n => decide (lk n = 8)) = (l.take k).countP (fun n => decide (lk n = 8)) + if lk (l.getD k Nn.zero) = 8 then 1 else 0) := Bx.mk (by
        rw [List.take_succ_eq_append_getElem (by rw [HN.out]; exact hlt), List.countP_append, List.countP_singleton, List.getD_eq_getElem?_getD, List.getElem?_eq_getElem (by rw [HN.out]; exact hlt)]
        simp)
      have hle : (l.take k).countP (fun n => decide (lk n = 8)) ≤ 1000 := by
        have := List.countP_le_length (p := fun n => decide (lk n = 8)) (l := l.take k)
        rw [List.length_take] at this
        omega
      generalize (l.take k).countP (fun n => decide (lk n = 8)) = tk at *
      generalize l.getD k Nn.zero = x at *
      have hw : IntKind.i64.wrap ((tk : Int) + 1) = (tk : Int) + 1 := by simp [IntKind.wrap_i64]; omega
      obtain ⟨xb, xc⟩ := x
      have HLx : Bx (∀ W, Below w.heap.size w W → Calls Try.prog 10 #[pv, .agg #[.int .i64 xb, .int .i64 xc]] W fun e w' => e = .returned (.int .i64 (lk ⟨xb, xc⟩)) ∧ Below W.heap.size W w') := Bx.mk fun W hb => HLk.out W ⟨xb, xc⟩ hb
      have HBa : Bx (Below w.heap.size w (wr.alloc (.cells #[.int .i64 xb, .int .i64 xc] 24))) := Bx.mk (HB.out.alloc HB.out.size _)
      clear hcell hle d1 d2
      by_cases he : lk ⟨xb, xc⟩ = 8
      · have HS2 : Bx ((l.take (k + 1)).countP (fun n => decide (lk n = 8)) = tk + 1) := Bx.mk (by rw [HS.out, if_pos he])
        rw [he] at HLx
        clear he HS
        go_wp2_with fail
        skip -- M3
        refine (HLx.out _ HBa.out).mono ?_
        rintro e w1 ⟨rfl, hb⟩
        have HB1 := Bx.mk (HBa.out.trans (hb.mono HBa.out.size))
        clear hb HBa HB HLx HLk c1 c2
        go_wp2
        go_roundw
        case rel => exact ⟨k + 1, by omega, by rw [HS2.out]; rfl, by go_num, HB1⟩
        case measure => simp [intOf]; omega
      · have HS2 : Bx ((l.take (k + 1)).countP (fun n => decide (lk n = 8)) = tk) := Bx.mk (by rw [HS.out, if_neg he]; rfl)
        generalize lk ⟨xb, xc⟩ = z at *
        clear HS
        go_wp2_with fail
        refine (HLx.out _ HBa.out).mono ?_
        rintro e w1 ⟨rfl, hb⟩
        have HB1 := Bx.mk (HBa.out.trans (hb.mono HBa.out.size))
        clear hb HBa HB HLx HLk c1 c2
        go_wp2
        go_roundw
        case rel => exact ⟨k + 1, by omega, by rw [HS2.out], by go_num, HB1⟩
        case measure => simp [intOf]; omega
    · have t1 : ¬ (k : Int) < (n : Int) := by omega
      obtain rfl : k = n := by omega
      rw [HT.out]
      go_wp2
      go_ret
      exact ⟨rfl, HB.out⟩
end Go.Proofs.Ytoohcjdjmafliaa
namespace Go.Proofs.Ytoohcjdjmafliaa
open Go Go.RowKit
/-- A window that was made behind a world. -/
structure WP (w : World) (q : Nat) (s : Ws) (W : World) : Prop where
  below : Below w.heap.size w W
  win : WinB W q s
  ge : w.heap.size ≤ q
  ok : s.ok
theorem WP.later {w : World} {q : Nat} {s : Ws} {W W1 : World} (h : WP w q s W) (hb : Below W.heap.size W W1) : WP w q s W1 := ⟨h.below.trans (hb.mono h.below.size), h.win.later hb, h.ge, h.ok⟩
theorem WP.aside {w : World} {q p : Nat} {s : Ws} {W W1 : World} (h : WP w q s W) (hg : W.grownBy W1 (some p)) (hp : w.heap.size ≤ p) (hne : q ≠ p) : WP w q s W1 := ⟨h.below.trans (grown_belowW hg hp h.below.size), h.win.aside hg hne, h.ge, h.ok⟩
theorem WP.row {w : World} {q : Nat} {s : Ws} {W W1 : World} {T : TypeId} {v : Value} {l : List Nn} (h : WP w q s W) (hT : T ≠ 27) (ho : OwnN T W w.heap.size v l) (hg : W.grownBy W1 v.ownBlock) : WP w q s W1 := ⟨h.below.trans (ownN_below ho hg h.below.size), h.win.row hT ho hg, h.ge, h.ok⟩
theorem WP.start (w : World) : WP w w.heap.size Ws.zero (w.alloc (.cells #[.int .i64 0, .int .i64 0, .int .u64 0] 27)) := ⟨below_a _, winB_new w, Nat.le_refl _, zero_ok⟩
theorem WP.take {w : World} {q : Nat} {s : Ws} {W : World} (h : WP w q s W) (n : Nn) : Calls Try.prog 12 #[.pointer (some ⟨q, 0, none⟩), nv n] W fun e W' => e = .returned (.int .i64 (lookW s n)) ∧ WP w q (takeW s n) W' ∧ W.grownBy W' (some q) := by
  refine (take_any12 q s n W h.win h.ok).mono ?_
  rintro e W' ⟨h1, h2, h3⟩
  exact ⟨h1, ⟨h.below.trans (grown_belowW h3 h.ge h.below.size), h2, h.ge, takeW_ok h.ok⟩, h3⟩
theorem WP.look {w : World} {q : Nat} {s : Ws} {W : World} (h : WP w q s W) (n : Nn) : Calls Try.prog 10 #[.pointer (some ⟨q, 0, none⟩), nv n] W fun e W' => e = .returned (.int .i64 (lookW s n)) ∧ WP w q s W' ∧ Below W.heap.size W W' := by
  refine (look_any q s n W h.win h.ok).mono ?_
  rintro e W' ⟨h1, h2⟩
  exact ⟨h1, h.later h2, h2⟩
theorem known12_facts : lookW Ws.zero ⟨1, 5⟩ = 0 ∧ lookW (takeW Ws.zero ⟨1, 5⟩) ⟨1, 3⟩ = 0 ∧ lookW (takeW (takeW Ws.zero ⟨1, 5⟩) ⟨1, 3⟩) ⟨1, 5⟩ = 8 ∧ lookW (takeW (takeW (takeW Ws.zero ⟨1, 5⟩) ⟨1, 3⟩) ⟨1, 5⟩) ⟨1, 70⟩ = 0 ∧ lookW (takeW (takeW (takeW (takeW Ws.zero ⟨1, 5⟩) ⟨1, 3⟩) ⟨1, 5⟩) ⟨1, 70⟩) ⟨1, 6⟩ = 9 := by decide +kernel
set_option maxRecDepth 100000 in
set_option maxHeartbeats 4000000 in
theorem known12_any (w : World) : Calls Try.prog 16 #[] w fun e w' => e = .returned (.bool true) ∧ Below w.heap.size w w' := by
  have HK := Bx.mk known12_facts
  have R0 := Bx.mk (WP.start w)
  go_enter Try.func16, Try.ntmps16
  go_wp2_with fail
  have T0 := R0.out.take ⟨1, 5⟩
  rw [HK.out.1] at T0
  refine T0.mono ?_
  rintro e w1 ⟨rfl, hw, -⟩
  have R1 := Bx.mk hw
  clear hw T0 R0
  go_wp2_with fail
  have T1 := R1.out.take ⟨1, 3⟩
  rw [HK.out.2.1] at T1
  refine T1.mono ?_
  rintro e w2 ⟨rfl, hw, -⟩
  have R2 := Bx.mk hw
  clear hw T1 R1
  go_wp2_with fail
  have T2 := R2.out.take ⟨1, 5⟩
  rw [HK.out.2.2.1] at T2
  refine T2.mono ?_
  rintro e w3 ⟨rfl, hw, -⟩
  have R3 := Bx.mk hw
  clear hw T2 R2
  go_wp2_with fail
  have T3 := R3.out.take ⟨1, 70⟩
  rw [HK.out.2.2.2.1] at T3
  refine T3.mono ?_
  rintro e w4 ⟨rfl, hw, -⟩
  have R4 := Bx.mk hw
  clear hw T3 R3
  go_wp2_with fail
  have T4 := R4.out.take ⟨1, 6⟩
  rw [HK.out.2.2.2.2] at T4
  refine T4.mono ?_
  rintro e w5 ⟨rfl, hw, -⟩
  have R5 := Bx.mk hw
  clear hw T4 R4
  go_wp2
  go_ret
  exact ⟨rfl, R5.out.below⟩
end Go.Proofs.Ytoohcjdjmafliaa
